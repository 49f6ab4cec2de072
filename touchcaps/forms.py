"""What a rule does to all ROWs, told as a FORM: its front, what is gone, and its bounds."""

from touchcaps.chains import follows_from, lacking, seen_of, tight_chain
from touchcaps.errors import Apart
from touchcaps.rows import is_name, is_row
from touchcaps.rules import Rule
from touchcaps.shapes import CONSTANT_BOUNDS, plain_steps, shape_of
from touchcaps.values import is_number, with_tuples


def constant(rule):
    """The ROW that comes out of all ROWs; None if there is no such ROW."""
    row, _, found = shape_of(rule.steps)
    return row if found == CONSTANT_BOUNDS else None


def front(rule):
    return shape_of(rule.steps)[0]


def gone(rule):
    return shape_of(rule.steps)[1]


def bounds(rule):
    return shape_of(rule.steps)[2]


def follows(bound, other):
    """Whether the first BOUND follows from the other one."""
    return follows_from(bound, other)


def tight(bounds):
    """Those of the BOUNDs that follow from no other one; raises Apart(one, other) if two sets are apart."""
    given = sorted(with_tuples(bounds), key=lambda bound: len(bound[0]))
    apart = least_apart([names for names, _ in given])
    if apart is not None:
        one, other = apart
        raise Apart(one, other)
    return tight_chain(given)


def least_apart(sets):
    """The least two of these sets of which neither lies within the other; None if there are none.

    Those with fewer NAMEs stand ahead.
    """
    if all([lacking(one, other) == 0 for one, other in zip(sets, sets[1:])]):
        return None
    ascending = sorted(set(sets))
    pairs = [(one, other) for place, one in enumerate(ascending) for other in ascending[place + 1:]]
    return min([(one, other) for one, other in pairs if lacking(one, other) > 0 and lacking(other, one) > 0])


def form_of(rule):
    return shape_of(rule.steps)


def is_form(thing):
    if not isinstance(thing, tuple) or len(thing) != 3:
        return False
    row, lost, found = thing
    if not is_row(row) or not is_set(lost) or not isinstance(found, tuple):
        return False
    if len(found) == 1 and is_constant_bound(found[0]):
        return lost == ()
    # So none that is gone stands in front, too.
    return is_row((*row, *lost)) and is_chain(found, (*row, *lost))


def is_set(thing):
    """Whether it is a set of NAMEs."""
    if not isinstance(thing, tuple) or not all([is_name(part) for part in thing]):
        return False
    return all([one < other for one, other in zip(thing, thing[1:])])


def is_pair(thing):
    """Whether it is a pair of a set of NAMEs and a number."""
    return isinstance(thing, tuple) and len(thing) == 2 and is_set(thing[0]) and is_number(thing[1])


def is_constant_bound(thing):
    return is_pair(thing) and thing == CONSTANT_BOUNDS[0]


def is_chain(parts, named):
    """Whether the parts are BOUNDs with sets of what is named, none following from another one, in their order."""
    if not all([is_pair(part) and part[1] >= 1 and lacking(part[0], named) == 0 for part in parts]):
        return False
    return all([is_next(one, other) for one, other in zip(parts, parts[1:])])


def is_next(one, other):
    """Whether the other BOUND may stand behind this one."""
    names, number = one
    others, many = other
    return lacking(names, others) == 0 and 0 < number - many < len(others) - len(names)


def by_form(form, row):
    """The ROW that a rule with this FORM makes of a ROW."""
    ahead, lost, found = form
    return (*ahead, *seen_of(found, (*ahead, *lost), row))


def rule_of(form):
    """The plain Rule with this FORM."""
    return Rule(plain_steps(with_tuples(form)))


def plain(rule):
    """The plain Rule alike to this one."""
    return rule_of(form_of(rule))
