"""A board: a row that is used, and views that show what they make of it.

The state of a Board is a tuple (row, limit, views, frames): the ROW, its limit or None, {NAME: Rule} and
{NAME: (low, high)}, low and high being plain Rules or None. No state changes: deeds make new ones.
"""

from touchcaps.errors import NoFrame, NoName, NoView, Outside, Stopped
from touchcaps.forms import form_of, plain
from touchcaps.order import compare
from touchcaps.rows import capped, forgotten, outside, touched
from touchcaps.shapes import shows_no_more


def check_view(views, name):
    """Raises NoView(name) if there is no view of this NAME."""
    if name not in views:
        raise NoView(name)


def check_frame(name, rule, frame):
    """Raises Outside(name) if the Rule is not within the frame."""
    low, high = frame
    if low is not None and not low.within(rule):
        raise Outside(name)
    if high is not None and not rule.within(high):
        raise Outside(name)


def without(table, name):
    return {other: worth for other, worth in table.items() if other != name}


def with_row(state, row):
    """The state with this ROW, cut to the limit."""
    _, limit, views, frames = state
    return (tuple(row) if limit is None else capped(row, limit), limit, views, frames)


def behind_use(state, name):
    return with_row(state, touched(state[0], name))


def behind_forget(state, name):
    if name not in state[0]:
        raise NoName(name)
    return with_row(state, forgotten(state[0], name))


def behind_do(state, rule):
    return with_row(state, rule(state[0]))


def behind_cut(state, number):
    row, _, views, frames = state
    return with_row((row, number, views, frames), row)


def behind_set(state, name, rule):
    row, limit, views, frames = state
    if name in frames:
        check_frame(name, rule, frames[name])
    return (row, limit, {**views, name: rule}, frames)


def behind_leave(state, name):
    row, limit, views, frames = state
    check_view(views, name)
    return (row, limit, without(views, name), without(frames, name))


def behind_step(state, name, step):
    check_view(state[2], name)
    return behind_set(state, name, state[2][name] >> step)


def behind_frame(state, name, low, high):
    row, limit, views, frames = state
    check_view(views, name)
    check_frame(name, views[name], (low, high))
    frame = (None if low is None else plain(low), None if high is None else plain(high))
    return (row, limit, views, {**frames, name: frame})


def behind_lift(state, name):
    row, limit, views, frames = state
    check_view(views, name)
    if name not in frames:
        raise NoFrame(name)
    return (row, limit, views, without(frames, name))


DEEDS = {
    "use": behind_use, "forget": behind_forget, "do": behind_do, "cut": behind_cut, "set": behind_set,
    "leave": behind_leave, "step": behind_step, "frame": behind_frame, "lift": behind_lift,
}


def behind_deed(state, deed):
    """The state behind a deed that is told as a tuple; raises NoName, NoView, NoFrame and Outside."""
    kind, *values = deed
    action = DEEDS[kind]
    return action(state, *values)


def behind_deeds(state, deeds):
    """The state behind all deeds; raises Stopped(number, raised, value) if one is refused."""
    for number, deed in enumerate(deeds):
        try:
            state = behind_deed(state, deed)
        except NoName as no_name:
            raise Stopped(number, "NoName", no_name.name)
        except NoView as no_view:
            raise Stopped(number, "NoView", no_view.name)
        except NoFrame as no_frame:
            raise Stopped(number, "NoFrame", no_frame.name)
        except Outside as outer:
            raise Stopped(number, "Outside", outer.name)
    return state


class Board:
    """A row, its limit, and views of it, some of which have to stay within a frame."""

    def __init__(self, row=()):
        self._state = (tuple(row), None, {}, {})
        # The states ahead of all deeds that can be taken back.
        self._earlier = []

    def _become(self, state):
        self._earlier.append(self._state)
        self._state = state

    @property
    def row(self):
        return self._state[0]

    @property
    def limit(self):
        return self._state[1]

    @property
    def names(self):
        return tuple(sorted(self._state[2]))

    @property
    def frames(self):
        """The triples (name, low, high), low and high being texts or None."""
        frames = self._state[3]
        return tuple([(name, *[None if own is None else own.text for own in frames[name]]) for name in sorted(frames)])

    def __len__(self):
        return len(self._state[2])

    def __contains__(self, x):
        return x in self._state[2]

    def __getitem__(self, at):
        check_view(self._state[2], at)
        return self._state[2][at]

    def __iter__(self):
        raise TypeError("a Board is not gone through")

    def __eq__(self, other):
        return isinstance(other, Board) and self._state == other._state

    def __setitem__(self, at, worth):
        self._become(behind_set(self._state, at, worth))

    def __iadd__(self, other):
        """Does a Step behind those of a view; other is (name, step)."""
        name, step = other
        self._become(behind_step(self._state, name, step))
        return self

    def shown(self, name):
        """What the view makes of the row; raises NoView(name)."""
        return self[name](self.row)

    def _all_shown(self):
        return [view(self.row) for view in self._state[2].values()]

    def common(self):
        """The set of the NAMEs that all views show."""
        rows = self._all_shown()
        return tuple(sorted([name for name in rows[0] if all([name in row for row in rows])])) if rows != [] else ()

    def unseen(self):
        """The set of the NAMEs of the row that no view shows."""
        rows = self._all_shown()
        return tuple(sorted([name for name in self.row if not any([name in row for row in rows])]))

    def above(self, name):
        """The set of the NAMEs of the other views that, for all ROWs, show all that this one shows."""
        own = form_of(self[name])
        others = outside(self.names, (name,))
        return tuple([other for other in others if shows_no_more(own, form_of(self[other]))])

    def doubled(self):
        """The set of the NAMEs of views to which one with a lesser NAME is alike."""
        names = self.names
        forms = [form_of(self[name]) for name in names]
        return tuple([name for place, name in enumerate(names) if forms[place] in forms[:place]])

    def effect(self, name, rule):
        """How the view compares with the Rule; raises NoView(name)."""
        return compare(self[name], rule)

    def use(self, name):
        """The NAME goes to the front of the row."""
        self._become(behind_use(self._state, name))

    def forget(self, name):
        """The NAME goes out of the row; raises NoName(name)."""
        self._become(behind_forget(self._state, name))

    def do(self, rule):
        """The row becomes what the Rule makes of it."""
        self._become(behind_do(self._state, rule))

    def cut(self, number):
        """This is the limit from now on, None for none."""
        self._become(behind_cut(self._state, number))

    def leave(self, name):
        """The view goes, with its frame; raises NoView(name)."""
        self._become(behind_leave(self._state, name))

    def frame(self, name, low, high):
        """The view has this frame from now on; raises NoView(name), Outside(name)."""
        self._become(behind_frame(self._state, name, low, high))

    def lift(self, name):
        """The frame of the view goes; raises NoView(name), NoFrame(name)."""
        self._become(behind_lift(self._state, name))

    def attempt(self, deeds):
        """Does all deeds, as one, or none; raises Stopped(number, raised, value)."""
        self._become(behind_deeds(self._state, deeds))

    def undo(self):
        """Takes back the last deed that was not taken back yet; returns whether there was one."""
        if len(self._earlier) == 0:
            return False
        self._state = self._earlier.pop()
        return True

    def twin(self):
        """Another Board in the same state, with the same deeds to take back."""
        made = self.fresh()
        made._earlier = list(self._earlier)
        return made

    def fresh(self):
        """Another Board in the same state, with no deed to take back."""
        made = Board()
        made._state = self._state
        return made
