"""The errors of the package. Each keeps what it is told under the same name, with tuples for lists."""

from touchcaps.values import with_tuples


class NoPlace(LookupError):
    """There is no such place."""

    def __init__(self, place):
        self.place = with_tuples(place)


class NoName(LookupError):
    """The NAME is not there."""

    def __init__(self, name):
        self.name = with_tuples(name)


class NoView(LookupError):
    """There is no view of this NAME."""

    def __init__(self, name):
        self.name = with_tuples(name)


class NoFrame(LookupError):
    """The view of this NAME has no frame."""

    def __init__(self, name):
        self.name = with_tuples(name)


class NoNumber(LookupError):
    """None has this number."""

    def __init__(self, number):
        self.number = with_tuples(number)


class NotUsed(LookupError):
    """No device has used this NAME."""

    def __init__(self, name):
        self.name = with_tuples(name)


class BadText(ValueError):
    """Nothing of the kind asked for has this text."""


class BadStep(ValueError):
    """There is no Step of this kind with this name or number."""

    def __init__(self, given):
        self.given = with_tuples(given)


class BadPlace(ValueError):
    """The NAME stands twice, at a place that is taken, or at one that is not there."""

    def __init__(self, name):
        self.name = with_tuples(name)


class Outside(ValueError):
    """The view of this NAME would not be within its frame."""

    def __init__(self, name):
        self.name = with_tuples(name)


class BadLine(ValueError):
    """The line with this number is wrong or missing."""

    def __init__(self, number):
        self.number = with_tuples(number)


class Stopped(ValueError):
    """An attempt was refused at the deed with this number."""

    def __init__(self, number, raised, value):
        self.number = with_tuples(number)
        self.raised = with_tuples(raised)
        self.value = with_tuples(value)


class Apart(ValueError):
    """Neither of these two sets of NAMEs lies within the other."""

    def __init__(self, one, other):
        self.one = with_tuples(one)
        self.other = with_tuples(other)


class OtherNames(ValueError):
    """Two Rules are not alike in names: this NAME shows it."""

    def __init__(self, name):
        self.name = with_tuples(name)


class NotBetween(ValueError):
    """The Rule with this text is not between the two."""

    def __init__(self, strange):
        self.strange = with_tuples(strange)


class Endless(ValueError):
    """There is no end of them."""


class NotAhead(ValueError):
    """This is no ROW ahead."""


class NotJoined(ValueError):
    """This is no joined ROW."""


class Unfit(ValueError):
    """No rule fits what was told."""


class Known(ValueError):
    """The rule is known already."""
