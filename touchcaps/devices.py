"""Several devices that use one list, and all that can come of it.

A state is a tuple of numbers, one for each device: how many NAMEs at the beginning of its ROW, its last touches, are
told already. What is told is what a joined ROW begins with.
"""

from touchcaps.errors import NoNumber, NotJoined, NotUsed
from touchcaps.rows import capped, is_row, outside, touched
from touchcaps.values import is_number


def used(names):
    """The ROW of a device that touches these NAMEs, one behind another."""
    found = {}
    for name in names[::-1]:
        found[name] = True
    return tuple(found)


def places_of(devices):
    """For each used NAME the places at which devices have it: {NAME: {number of the device: place}}."""
    found = {}
    for number, own in enumerate(devices):
        for place, name in enumerate(own):
            if name not in found:
                found[name] = {}
            found[name][number] = place
    return found


def all_used(devices):
    """The set of all NAMEs that are used."""
    return tuple(sorted(places_of(devices)))


def is_order(devices, thing):
    """Whether the thing tells the devices whose touches come one after another."""
    if not isinstance(thing, tuple) or not all([is_number(part) for part in thing]):
        return False
    return sorted(thing) == [number for number, own in enumerate(devices) for _ in own]


def joined_by(devices, row, order, *, cap=None):
    """The joined ROW of this ORDER."""
    joined = tuple(row)
    left = [list(own) for own in devices]
    for number in order:
        joined = touched(joined, left[number].pop())
        if cap is not None:
            joined = capped(joined, cap)
    return joined


def first_state(devices):
    return tuple([0 for _ in devices])


def next_names(devices, state):
    """The NAMEs that can be told next, in Python's order."""
    return sorted(set([own[at] for own, at in zip(devices, state) if at < len(own)]))


def is_told(places, state):
    """Whether a NAME that the devices have at these places is told."""
    return any([place < state[number] for number, place in places.items()])


def state_behind(devices, where, state, name):
    """The state in which this NAME is told, too, if it is one of the next ones; where tells the places of all NAMEs."""
    ends = []
    for own, at in zip(devices, state):
        end = at
        # In no state a device has a NAME next that is told already: so those with another one next stay.
        if name in own[at:at + 1]:
            end += 1
            # Earlier touches of what is told already change nothing.
            while end < len(own) and is_told(where[own[end]], state):
                end += 1
        ends.append(end)
    return tuple(ends)


def steps_of(devices, cap):
    """All states, each with the NAMEs that can be told next and the states that come then: {state: {NAME: state}}.

    Those with more told stand behind those with less; behind those with cap NAMEs there are none.
    """
    where = places_of(devices)
    found = {}
    told = 0
    newest = [first_state(devices)]
    while newest != []:
        further = {}
        for state in newest:
            names = [] if told == cap else next_names(devices, state)
            found[state] = {name: state_behind(devices, where, state, name) for name in names}
            for behind in list(found[state].values()):
                further[behind] = True
        newest = list(further)
        told += 1
    return found


def ways_on(steps):
    """How many ways lead on from each state."""
    found = {}
    for state in list(steps)[::-1]:
        # Where none leads on, the ROW is told: this is one way.
        found[state] = sum([found[behind] for behind in steps[state].values()]) if steps[state] != {} else 1
    return found


def completed(devices, row, told, cap):
    """The joined ROW that begins with what is told."""
    every = all_used(devices)
    # Without any touch nothing is cut.
    if every == () or cap is None:
        return (*told, *outside(row, every))
    return capped((*told, *outside(row, every)), cap)


def how_many_joined(devices, row, *, cap=None):
    """How many joined ROWs there are."""
    # What stands behind the used NAMEs is the same in all of them.
    return ways_on(steps_of(devices, cap))[first_state(devices)]


def nth_joined(devices, row, number, *, cap=None):
    """The joined ROW with this number, by Python's order; raises NoNumber(number)."""
    steps = steps_of(devices, cap)
    ways = ways_on(steps)
    state = first_state(devices)
    if number < 0 or number >= ways[state]:
        raise NoNumber(number)
    told = []
    left = number
    while steps[state] != {}:
        for name, behind in list(steps[state].items()):
            if left < ways[behind]:
                told.append(name)
                state = behind
                break
            left -= ways[behind]
    return completed(devices, row, told, cap)


def rank_joined(devices, row, joined, *, cap=None):
    """The number of a joined ROW; raises NotJoined()."""
    if not is_joined(devices, row, tuple(joined), cap=cap):
        raise NotJoined()
    steps = steps_of(devices, cap)
    ways = ways_on(steps)
    state = first_state(devices)
    rank = 0
    for name in joined:
        # Behind the used NAMEs, and behind as many as cap, nothing is to be chosen.
        if steps[state] == {}:
            break
        rank += sum([ways[behind] for other, behind in steps[state].items() if other < name])
        state = steps[state][name]
    return rank


def order_to(devices, row, joined, *, cap=None):
    """An ORDER that leads to this joined ROW; None if there is none."""
    where = places_of(devices)
    state = first_state(devices)
    # Their numbers, the last touch first.
    numbers = []
    for name in joined:
        # Each device that comes on has this NAME next: so it is told first, whichever of them it is.
        behind = state_behind(devices, where, state, name)
        for number, (at, end) in enumerate(zip(state, behind)):
            numbers.extend([number] * (end - at))
        state = behind
    # Of what is left no more NAMEs of joined are told: so any order does.
    for number, own in enumerate(devices):
        numbers.extend([number] * (len(own) - state[number]))
    order = tuple(numbers[::-1])
    return order if joined_by(devices, row, order, cap=cap) == tuple(joined) else None


def is_joined(devices, row, thing, *, cap=None):
    """Whether the thing is a joined ROW."""
    return is_row(thing) and order_to(devices, row, thing, cap=cap) is not None


def is_ahead_for_sure(where, one, other):
    """Whether each device that used the other NAME used this one later."""
    places = where[one]
    return all([number in places and places[number] < place for number, place in where[other].items()])


def check_used(where, names):
    """Raises NotUsed(name) for the first of these NAMEs that no device has used."""
    for name in names:
        if name not in where:
            raise NotUsed(name)


def surely_ahead(devices, one, other):
    """Whether one used NAME stands ahead of the other in all joined ROWs without a cap; raises NotUsed(name)."""
    where = places_of(devices)
    check_used(where, (one, other))
    return is_ahead_for_sure(where, one, other)


def sure_pairs(devices):
    """The set of the pairs of used NAMEs of which the first one is ahead of the other one for sure."""
    where = places_of(devices)
    names = sorted(where)
    return tuple([(one, other) for one in names for other in names if is_ahead_for_sure(where, one, other)])


def range_of(where, name):
    """The least and the greatest place of a used NAME in the joined ROWs without a cap."""
    before = [other for other in where if other != name and not is_ahead_for_sure(where, name, other)]
    return (min(list(where[name].values())), len(before))


def place_range(devices, name):
    """The least and the greatest place of a used NAME in the joined ROWs without a cap; raises NotUsed(name)."""
    where = places_of(devices)
    check_used(where, (name,))
    return range_of(where, name)


def range_in(where, row, name):
    """The same of any NAME; None if no joined ROW without a cap has it."""
    if name in where:
        return range_of(where, name)
    if name not in row:
        return None
    # What is not used stands behind all that is.
    place = len(where) + outside(row, list(where)).index(name)
    return (place, place)


def stands(devices, row, name, *, cap=None):
    """Whether all joined ROWs have this NAME, none has it, or some."""
    where = places_of(devices)
    found = range_in(where, row, name)
    if found is None:
        return "no"
    least, greatest = found
    # Without any touch nothing is cut.
    if where == {} or cap is None or greatest < cap:
        return "yes"
    return "no" if least >= cap else "open"


def cap_for(devices, row, name):
    """The least cap with which all joined ROWs have this NAME; None if there is none."""
    where = places_of(devices)
    found = range_in(where, row, name)
    if found is None:
        return None
    return 1 if where == {} else found[1] + 1
