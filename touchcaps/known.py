"""What is known of the ROW ahead: the one that a rule has made another ROW of.

Ahead of what a Rule makes, seen stands for what is behind the front of it: all NAMEs shown that the Rule does not name.
"""

from math import comb, perm

from touchcaps.chains import lacking
from touchcaps.errors import Endless, NoNumber, NotAhead
from touchcaps.forms import form_of
from touchcaps.rows import is_row, new_names, outside
from touchcaps.shapes import CONSTANT_BOUNDS, is_bounded, names_of


def strange_place(rule, row):
    """The least place up to which no ROW that can come out begins as this one does; None if this one can come out."""
    return strange_place_for(form_of(rule), row)


def strange_place_for(form, row):
    """The same for what has this FORM."""
    front = form[0]
    for place, name in enumerate(row):
        if place < len(front) and name != front[place]:
            return place
        if place >= len(front) and not can_be_seen(form, name, place - len(front)):
            return place
    return None if len(row) >= len(front) else len(row)


def can_be_seen(form, name, number):
    """Whether this NAME, which is not in front, can stand behind the front and so many others."""
    _, lost, bounds = form
    # The last BOUND has the least number; that of what is constant is 0.
    return name not in lost and (bounds == () or number < bounds[-1][1])


def seen_behind(form, row):
    """What stands behind the front in a ROW that can come out; None if it can not."""
    if strange_place_for(form, row) is not None:
        return None
    return tuple(row[len(form[0]):])


def can_come(rule, row):
    """Whether there is a ROW ahead of this one."""
    return strange_place(rule, row) is None


def least_ahead(rule, row):
    """The ROW ahead with the fewest items; None if there is none."""
    return seen_behind(form_of(rule), row)


def is_ahead(rule, row, thing):
    """Whether the thing is a ROW that the rule leads to this one."""
    return is_row(thing) and rule(thing) == tuple(row)


def sight_of(form):
    """On how many of the first items the result hangs; None if there is no such number."""
    if form[2] == ():
        return None
    names, number = form[2][0]
    return number + len(names)


def can_lose(form, many):
    """Whether something can be lost where so many are seen."""
    sight = sight_of(form)
    return sight is not None and many + len(names_of(form)) >= sight


def fewest_ahead(form, many, names):
    """How few of these NAMEs, if they stand ahead, make the next item behind so many seen ones go lost.

    None if all of them do not.
    """
    # Some NAMEs that a BOUND counts, and none that it does not count, stand between the last one seen and the lost one.
    needs = [number - many for own, number in form[2] if number - many <= lacking(names, own)]
    return min(needs, default=None)


def lengths_for(form, many):
    """The least and the greatest number of items of a ROW ahead where so many are seen."""
    return (many, None if can_lose(form, many) else many + len(names_of(form)))


def lengths(rule, row):
    """The least and the greatest number of items of a ROW ahead; None if there is no ROW ahead."""
    form = form_of(rule)
    seen = seen_behind(form, row)
    return None if seen is None else lengths_for(form, len(seen))


def lost_for(form, many, length):
    """The least and the greatest number of lost items where so many are seen; None if no ROW ahead has this length."""
    least, greatest = lengths_for(form, many)
    if length is None:
        return (0, None if greatest is None else 0)
    if length < least or (greatest is not None and length > greatest):
        return None
    if greatest is not None:
        return (0, 0)
    named = names_of(form)
    # All others are lost or named; what is named, and stands there, makes them go lost.
    more = length - many
    return (max(0, more - len(named)), max(0, more - fewest_ahead(form, many, named)))


def lost(rule, row, *, length=None):
    """The least and the greatest number of items that can be lost; None if there is no ROW ahead."""
    form = form_of(rule)
    seen = seen_behind(form, row)
    return None if seen is None else lost_for(form, len(seen), length)


def was_there(rule, row, name, *, length=None):
    """Whether all ROWs ahead have this NAME, none, or some; None if there is no ROW ahead."""
    form = form_of(rule)
    seen = seen_behind(form, row)
    if seen is None:
        return None
    lost_items = lost_for(form, len(seen), length)
    if lost_items is None:
        return None
    if name in seen:
        return "yes"
    if name not in names_of(form):
        return "no" if lost_items == (0, 0) else "open"
    if length is None:
        return "open"
    return named_was_there(form, name, len(seen), length)


def named_was_there(form, name, many, length):
    """The same for a NAME of front or gone, where so many are seen, and for a length that a ROW ahead has."""
    others = outside(names_of(form), (name,))
    more = length - many
    if more == 0:
        return "no"
    needed = fewest_ahead(form, many, others)
    # Without it there are as many others at most, or something is lost behind those that are needed for it.
    if more <= len(others) or (needed is not None and needed < more):
        return "open"
    return "yes"


def places(rule, row, name):
    """The least and the greatest place of a NAME that all ROWs ahead have; None for every other NAME."""
    form = form_of(rule)
    seen = seen_behind(form, row)
    if seen is None or name not in seen:
        return None
    moved = len(names_of(form))
    if form[2] != ():
        moved = min(moved, sight_of(form) - len(seen))
    place = seen.index(name)
    return (place, place + moved)


def sight(rule):
    """The least number such that the result hangs on the first so many items alone; None if there is none."""
    return sight_of(form_of(rule))


def sight_rows(rule):
    """Two ROWs with unlike results, the second one with one item more, the last one that is seen; None if none is."""
    form = form_of(rule)
    if not is_bounded(form):
        return None
    bounds = form[2]
    # Ahead of as many others as the last number says stand as many NAMEs as all BOUNDs let stand there.
    ahead = list(bounds[0][0])
    for (names, number), (others, fewer) in zip(bounds, bounds[1:]):
        ahead.extend(outside(others, names)[:number - fewer])
    row = (*ahead, *new_names(bounds[-1][1], names_of(form)))
    return (row[:-1], row)


def ways(many, named):
    """How many ROWs have so many told items in their order and any of so many others anywhere."""
    return sum([comb(named, more) * perm(many + more, more) for more in range(named + 1)])


def how_many_ahead(rule, row):
    """How many ROWs ahead there are; None if there is no end of them."""
    form = form_of(rule)
    seen = seen_behind(form, row)
    if seen is None:
        return 0
    return None if can_lose(form, len(seen)) else ways(len(seen), len(names_of(form)))


def next_items(seen, named):
    """What a ROW ahead can go on with, in Python's order, each with how many do so.

    The first one is None, for the one that ends here, if nothing more has to be seen.
    """
    with_seen = 0 if seen == () else ways(len(seen) - 1, len(named))
    with_named = 0 if named == () else ways(len(seen), len(named) - 1)
    ends = [(None, 1)] if seen == () else []
    return [*ends, *[(name, with_seen if name in seen else with_named) for name in sorted([*seen[:1], *named])]]


def nth_ahead(rule, row, number):
    """The ROW ahead with this number; raises Endless(), NoNumber(number)."""
    every = how_many_ahead(rule, row)
    if every is None:
        raise Endless()
    if number < 0 or number >= every:
        raise NoNumber(number)
    form = form_of(rule)
    seen, named = seen_behind(form, row), names_of(form)
    found = []
    left = number
    while seen != () or left > 0:
        for name, many in next_items(seen, named):
            if left < many:
                found.append(name)
                break
            left -= many
        seen, named = outside(seen, found[-1:]), outside(named, found[-1:])
    return tuple(found)


def rank_ahead(rule, row, ahead):
    """The number of a ROW ahead; raises Endless(), NotAhead()."""
    every = how_many_ahead(rule, row)
    if every is None:
        raise Endless()
    if every == 0 or not is_ahead(rule, row, tuple(ahead)):
        raise NotAhead()
    form = form_of(rule)
    seen, named = seen_behind(form, row), names_of(form)
    rank = 0
    for name in ahead:
        for other, many in next_items(seen, named):
            if other == name:
                break
            rank += many
        seen, named = outside(seen, (name,)), outside(named, (name,))
    return rank
