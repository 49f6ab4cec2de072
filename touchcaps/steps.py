"""Steps: what is done to a ROW in one go."""

from touchcaps.errors import BadStep, BadText
from touchcaps.rows import capped, forgotten, is_name, touched
from touchcaps.values import is_number, is_numeral


def is_step(kind, what):
    if kind == "cap":
        return is_number(what) and what >= 1
    return kind in ("touch", "forget") and is_name(what)


def row_behind_step(kind, what, row):
    if kind == "touch":
        return touched(row, what)
    if kind == "forget":
        return forgotten(row, what)
    return capped(row, what)


class Step:
    """A step of one of the three kinds; it does not change."""

    def __init__(self, kind, what):
        if not is_step(kind, what):
            raise BadStep((kind, what))
        self._kind = kind
        self._what = what

    @staticmethod
    def of(text):
        """The Step with this text; raises BadText() if there is none."""
        kind, _, rest = text.partition(" ")
        what = int(rest) if is_numeral(rest) else rest
        if not is_step(kind, what):
            raise BadText()
        return Step(kind, what)

    @property
    def kind(self):
        return self._kind

    @property
    def what(self):
        return self._what

    @property
    def text(self):
        return f"{self._kind} {self._what}"

    def __call__(self, row):
        return row_behind_step(self._kind, self._what, row)

    def __eq__(self, other):
        return isinstance(other, Step) and self._kind == other._kind and self._what == other._what
