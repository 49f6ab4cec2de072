"""Great lists: so many items, of which some have NAMEs, told by their places."""

from touchcaps.errors import BadPlace, BadText, NoName, NoPlace
from touchcaps.rows import is_name
from touchcaps.values import is_numeral, with_tuples


def wrong_name(size, places):
    """The NAME of the first pair that is wrong; None if none is."""
    names = set()
    taken = set()
    for name, place in places:
        if name in names or place in taken or place < 0 or place >= size:
            return name
        names.add(name)
        taken.add(place)
    return None


def pairs_of(text):
    """The pairs with this text; raises BadText() if it is none of pairs."""
    found = []
    for part in text.split(","):
        words = part.split(" ")
        if len(words) != 3 or words[0] != "" or not is_name(words[1]) or not is_numeral(words[2]):
            raise BadText()
        found.append((words[1], int(words[2])))
    return tuple(found)


def taken_out(places, name):
    """The places {NAME: place} when this NAME is gone."""
    at = places[name]
    return {other: place - 1 if place > at else place for other, place in places.items() if other != name}


def behind_step(step, size, places):
    """The size and the places {NAME: place} behind a Step."""
    what = step.what
    if step.kind == "cap":
        return min(size, what), {name: place for name, place in places.items() if place < what}
    if what in places:
        size, places = size - 1, taken_out(places, what)
    if step.kind == "forget":
        return size, places
    return size + 1, {what: 0, **{name: place + 1 for name, place in places.items()}}


def unnamed_ahead(places, place):
    """How many items without a NAME stand ahead of this place."""
    return place - len([own for _, own in places if own < place])


def unnamed_place(places, many):
    """The place of the item without a NAME that so many others without one stand ahead of."""
    at = many
    for own in sorted([own for _, own in places]):
        if own <= at:
            at += 1
    return at


class Long:
    """A list of so many unlike items, some with NAMEs; it does not change."""

    def __init__(self, size=0, places=()):
        pairs = with_tuples(places)
        wrong = wrong_name(size, pairs)
        if wrong is not None:
            raise BadPlace(wrong)
        self._size = size
        self._places = tuple(sorted(pairs))

    @staticmethod
    def of(text):
        """The Long with this text; raises BadText() if there is none."""
        size, colon, rest = text.partition(":")
        if not is_numeral(size):
            raise BadText()
        pairs = () if colon == "" else pairs_of(rest)
        if wrong_name(int(size), pairs) is not None or pairs != tuple(sorted(pairs)):
            raise BadText()
        return Long(int(size), pairs)

    @property
    def size(self):
        return self._size

    @property
    def places(self):
        return self._places

    @property
    def text(self):
        if self._places == ():
            return str(self._size)
        pairs = ",".join([f" {name} {place}" for name, place in self._places])
        return f"{self._size}:{pairs}"

    def __contains__(self, x):
        return any([name == x for name, _ in self._places])

    def __getitem__(self, at):
        for name, place in self._places:
            if name == at:
                return place
        raise NoName(at)

    def __iter__(self):
        raise TypeError("a Long is not gone through: its property places is")

    def __eq__(self, other):
        return isinstance(other, Long) and self._size == other._size and self._places == other._places

    def after(self, rule):
        """The Long that it becomes."""
        size, places = self._size, {name: place for name, place in self._places}
        for step in rule.steps:
            size, places = behind_step(step, size, places)
        return Long(size, list(places.items()))

    def lost(self, rule):
        """How many of its items are not shown then."""
        made = self.after(rule)
        came = [name for name, _ in made.places if name not in self]
        return self._size - (made.size - len(came))

    def _name_at(self, place):
        """The NAME at this place; None if there is none."""
        for name, own in self._places:
            if own == place:
                return name
        return None

    def _check_place(self, place):
        if place < 0 or place >= self._size:
            raise NoPlace(place)

    def goes(self, rule, place):
        """Where the item that stands at this place stands then; None if it is not shown; raises NoPlace(place)."""
        self._check_place(place)
        made = self.after(rule)
        name = self._name_at(place)
        if name is not None:
            return made[name] if name in made else None
        # Those without NAMEs keep their order, and the last ones go first.
        many = unnamed_ahead(self._places, place)
        return unnamed_place(made.places, many) if many < made.size - len(made.places) else None

    def comes(self, rule, place):
        """Where the item stood that stands at this place then; None for a NAME that came; raises NoPlace(place)."""
        made = self.after(rule)
        made._check_place(place)
        name = made._name_at(place)
        if name is not None:
            return self[name] if name in self else None
        return unnamed_place(self._places, unnamed_ahead(made.places, place))
