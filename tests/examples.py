"""The examples of the document, as they stand there, and how they are tried."""

ROWS = r'''
    >>> row = ("c", "a", "d")
    >>> is_row(row), is_row(()), is_row(("a", "a")), is_row(["a"]), is_row(("a", "B")), is_name("recent"), is_name("")
    (True, True, False, False, False, True, False)
    >>> touched(row, "a"), touched(row, "x"), forgotten(row, "a"), forgotten(row, "x")
    (('a', 'c', 'd'), ('x', 'c', 'a', 'd'), ('c', 'd'), ('c', 'a', 'd'))
    >>> capped(row, 2), capped(row, 9), capped(row, 0), outside(row, ("a", "b"))
    (('c', 'a'), ('c', 'a', 'd'), (), ('c', 'd'))
    >>> row_text(row), row_text(()), row_of("c a d") == row, row_of("-")
    ('c a d', '-', True, ())
    >>> row_of("c a c")
    raises BadText()
'''

RULES = r'''
    >>> rule, other = Rule.of("touch a; cap 3"), Rule.of("cap 3; touch a")
    >>> rule(("x", "y", "z")), other(("x", "y", "z")), rule(("x", "a", "y", "z")), other(("x", "a", "y", "z")), rule(())
    (('a', 'x', 'y'), ('a', 'x', 'y', 'z'), ('a', 'x', 'y'), ('a', 'x', 'y'), ('a',))
    >>> rule == other, rule.within(other), other.within(rule), Rule.of("cap 3; touch a; cap 3") == rule, Rule.of("touch a; touch a") == Rule.of("touch a")
    (False, True, False, True, True)
    >>> Rule.of("touch a; cap 3; forget a") == Rule.of("forget a; cap 2"), Rule.of("cap 2; forget a") == Rule.of("forget a; cap 2"), Rule.of("touch a; cap 1") == Rule.of("touch b; touch a; cap 1")
    (True, False, True)
    >>> (rule * 2).text, (rule * 10 ** 40).text, (rule * 0).text, other * 2 == rule, (rule >> Step("forget", "b")).text, len(rule), rule[1].text
    ('forget a; cap 2; touch a', 'forget a; cap 2; touch a', '-', True, 'touch a; cap 3; forget b', 2, 'cap 3')
    >>> Rule().text, Rule()(("x",)), Step.of("cap 2")(("x", "y", "z")), Step("forget", "y")(("x", "y", "z")), Step("touch", "a").text
    ('-', ('x',), ('x', 'y'), ('x', 'z'), 'touch a')
    >>> Step("cap", 0)
    raises BadStep(given=('cap', 0))
    >>> Rule.of("touch a;cap 3")
    raises BadText()
    >>> rule[2]
    raises NoPlace(place=2)
'''


def parts_of(text):
    """Each line that is run, with the line that stands below it or None."""
    lines = [line.strip() for line in text.strip().split("\n")]
    below = [*lines[1:], ">>> "]
    return [
        (line[4:], None if after.startswith(">>> ") else after)
        for line, after in zip(lines, below) if line.startswith(">>> ")
    ]


def error_text(error):
    told = ", ".join(f"{name}={value!r}" for name, value in vars(error).items())
    return f"{type(error).__name__}({told})"


def answer(line, names):
    """How the document tells what comes of this line."""
    try:
        return repr(eval(line, names))
    except (LookupError, ValueError) as error:
        return f"raises {error_text(error)}"


def unlike(text, names):
    """The lines of these examples of which something else comes, with what comes of them."""
    found = []
    for line, expected in parts_of(text):
        if expected is None:
            exec(line, names)
        elif answer(line, names) != expected:
            found.append((line, answer(line, names)))
    return found
