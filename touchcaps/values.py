"""What several files ask of numbers, of numerals and of nested lists."""


def is_number(thing):
    return isinstance(thing, int) and not isinstance(thing, bool)


def is_numeral(text):
    """Whether this is how a number from 0 is written: decimal digits without zeros in front."""
    # isdigit() would let digits of other scripts through.
    if text == "" or not all(["0" <= sign <= "9" for sign in text]):
        return False
    return text == "0" or text[0] != "0"


def with_tuples(value):
    """The value with a tuple for each list in it, at any depth."""
    if isinstance(value, (list, tuple)):
        return tuple([with_tuples(part) for part in value])
    return value
