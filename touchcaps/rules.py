"""Rules: rows of steps, done one behind another."""

from touchcaps.errors import NoPlace
from touchcaps.shapes import plain_steps, row_behind, shape_of, shows_no_more
from touchcaps.steps import Step
from touchcaps.values import is_number


class Rule:
    """A row of Steps, the one that is done first ahead; it does not change."""

    def __init__(self, steps=()):
        self._steps = tuple(steps)

    @staticmethod
    def of(text):
        """The Rule with this text; raises BadText() if there is none."""
        if text == "-":
            return Rule()
        return Rule([Step.of(part) for part in text.split("; ")])

    @property
    def steps(self):
        return self._steps

    @property
    def text(self):
        if len(self._steps) == 0:
            return "-"
        return "; ".join([step.text for step in self._steps])

    def __len__(self):
        return len(self._steps)

    def __getitem__(self, at):
        if at < 0 or at >= len(self._steps):
            raise NoPlace(at)
        return self._steps[at]

    def __iter__(self):
        raise TypeError("a Rule is not gone through: its property steps is")

    def __call__(self, row):
        return row_behind(self._steps, row)

    def __rshift__(self, other):
        if isinstance(other, Step):
            return Rule((*self._steps, other))
        if isinstance(other, Rule):
            return Rule((*self._steps, *other._steps))
        return NotImplemented

    def __mul__(self, other):
        """The plain Rule that does the same as this one, done so many times."""
        if not is_number(other):
            return NotImplemented
        # The third time and all later ones do what the second one did.
        return Rule(plain_steps(shape_of(self._steps * min(other, 2))))

    def __eq__(self, other):
        return isinstance(other, Rule) and shape_of(self._steps) == shape_of(other._steps)

    def within(self, other):
        """Whether, of every ROW, each NAME that this Rule shows is one that the other one shows."""
        return shows_no_more(shape_of(self._steps), shape_of(other.steps))
