"""NAMEs and ROWs: things as they were used, the one that was used last first."""

from touchcaps.errors import BadText

LETTERS = "abcdefghijklmnopqrstuvwxyz"


def is_name(thing):
    if not isinstance(thing, str) or thing == "":
        return False
    return all(["a" <= letter <= "z" for letter in thing])


def is_row(thing):
    if not isinstance(thing, tuple) or not all([is_name(part) for part in thing]):
        return False
    return len(set(thing)) == len(thing)


def row_text(row):
    if len(row) == 0:
        return "-"
    return " ".join(row)


def row_of(text):
    """The ROW with this text; raises BadText() if there is none."""
    if text == "-":
        return ()
    # A blank too many leaves an empty part, which is no NAME.
    row = tuple(text.split(" "))
    if not is_row(row):
        raise BadText()
    return row


def outside(row, names):
    return tuple([name for name in row if name not in names])


def forgotten(row, name):
    return outside(row, (name,))


def touched(row, name):
    return (name, *forgotten(row, name))


def capped(row, number):
    return tuple(row[:number])


def all_rows(names):
    """All ROWs of these NAMEs, in Python's order."""
    found = []
    newest = [()]
    while newest != []:
        found.extend(newest)
        newest = [(*row, name) for row in newest for name in names if name not in row]
    return sorted(found)


def new_names(many, names):
    """So many different NAMEs that are none of these."""
    found = []
    words = [""]
    while len(found) < many:
        words = [word + letter for word in words for letter in LETTERS]
        found.extend([word for word in words if word not in names])
    return found[:many]
