"""What rules do, seen from outside: told anew from the document's words, without the package."""

from itertools import combinations, permutations


def done(part, row):
    """The row behind one step, told by its text."""
    kind, what = part.split(" ")
    if kind == "cap":
        return row[:int(what)]
    others = tuple(name for name in row if name != what)
    return (what, *others) if kind == "touch" else others


def made(text, row):
    """The row behind all steps of a rule, told by its text."""
    for part in [] if text == "-" else text.split("; "):
        row = done(part, row)
    return row


def all_rows(names):
    return [row for many in range(len(names) + 1) for row in permutations(names, many)]


def rows_up_to_strangers(names, strangers):
    """All rows of these names and strangers in which the strangers are the first so many, in their order.

    What a rule that does not name the strangers makes of any other row is made of one of these by other names.
    """
    rows = []
    for many in range(len(strangers) + 1):
        for row in all_rows(names):
            for places in combinations(range(many + len(row)), len(row)):
                own, foreign = iter(row), iter(strangers)
                rows.append(tuple(next(own if at in places else foreign) for at in range(many + len(row))))
    return rows


def texts_to(most, parts):
    """The texts of all rules of at most so many of these steps."""
    texts, longest = ["-"], [()]
    for _ in range(most):
        longest = [(*row, part) for row in longest for part in parts]
        texts.extend("; ".join(row) for row in longest)
    return texts


class Seen:
    """What a rule, told by its text, makes of some rows."""

    def __init__(self, text, rows):
        self.made = [made(text, row) for row in rows]
        self.shown = {(at, name) for at, row in enumerate(self.made) for name in row}

    def alike(self, other):
        return self.made == other.made

    def within(self, other):
        return self.shown <= other.shown


def is_plain(text):
    """Whether a rule is written as point 6 of the document writes the plain ones."""
    if text in ("-", "touch a; cap 1; forget a"):
        return True
    parts = [part.split(" ") for part in text.split("; ")]
    kinds = [kind for kind, _ in parts]
    touched = [what for kind, what in parts if kind == "touch"]
    if len(set(touched)) < len(touched):
        return False
    if touched and kinds == ["touch"] * len(touched) + ["cap"]:
        return parts[-1][1] == str(len(touched))
    head = parts[:len(parts) - len(touched)]
    if any(kind == "touch" for kind, _ in head):
        return False
    return is_plain_head(head)


def is_plain_head(parts):
    """Whether these are steps "forget" and "cap" of a plain rule."""
    groups, numbers = [[]], []
    for kind, what in parts:
        if kind == "forget":
            groups[-1].append(what)
        else:
            numbers.append(int(what))
            groups.append([])
    every = [name for group in groups for name in group]
    falls = [high - low for high, low in zip(numbers, numbers[1:])]
    return (
        len(set(every)) == len(every)
        and all(group == sorted(group) for group in groups)
        and all(0 < fall < len(group) for fall, group in zip(falls, groups[1:]))
    )
