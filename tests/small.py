"""All small rules, told anew from the document's words, without the package: their bounds and their plain texts."""

from functools import cache
from itertools import combinations, permutations, product


def sets_of(names):
    return [own for many in range(len(names) + 1) for own in combinations(sorted(names), many)]


def bound_follows(bound, other):
    return bound[1] >= other[1] + len([name for name in other[0] if name not in bound[0]])


def rows_of_sets(names):
    """All tuples of one set or more, each within the next one and not the same."""
    found, newest = [], [(own,) for own in sets_of(names)]
    while newest:
        found.extend(newest)
        newest = [(own, *row) for row in newest for own in sets_of(row[0]) if own != row[0]]
    return found


def none_follows(bounds):
    return not any(bound_follows(one, other) for one, other in permutations(bounds, 2))


@cache
def bound_lists(names, last=1):
    """All lists of bounds with sets of these names and this last number, by trying all numbers."""
    tries = range(last, last + len(names) + 1)
    return [
        bounds
        for row in rows_of_sets(names) for numbers in product(tries, repeat=len(row) - 1)
        for bounds in [tuple(zip(row, (*numbers, last)))] if none_follows(bounds)
    ]


def lists_to(names, most):
    """All lists of bounds without a number above most, the one without bounds included."""
    return [(), *[
        bounds for last in range(1, most + 1) for bounds in bound_lists(names, last) if bounds[0][1] <= most
    ]]


def fronts_within(names):
    return [row for many in range(len(names) + 1) for row in permutations(names, many)]


def plain_text(front, gone, bounds):
    """The text of the plain rule that is not constant with this front, with these names gone, with these bounds."""
    steps, known = [], set()
    for names, number in bounds:
        steps.extend(f"forget {name}" for name in sorted(set(names) - known))
        steps.append(f"cap {number}")
        known |= set(names)
    steps.extend(f"forget {name}" for name in sorted(set(gone) - known))
    steps.extend(f"touch {name}" for name in reversed(front))
    return "; ".join(steps) or "-"


def constant_text(row):
    """The text of the plain rule of which this row comes always."""
    if not row:
        return "touch a; cap 1; forget a"
    return "; ".join([*[f"touch {name}" for name in reversed(row)], f"cap {len(row)}"])


def forms_naming(names, most):
    """All FORMs that are not constant, name just these names, and have no number above most."""
    return [
        (front, tuple(sorted(set(names) - set(front))), bounds)
        for front in fronts_within(names) for bounds in lists_to(names, most)
    ]


def small_forms(names, most):
    """All FORMs that are not constant, name no other names than these, and have no number above most."""
    return [form for named in sets_of(names) for form in forms_naming(named, most)]


def small_texts(names, most):
    """The plain texts of all rules that name no other names, with bounds to most."""
    return [
        *[plain_text(*form) for form in small_forms(names, most)],
        *[constant_text(row) for row in fronts_within(names)],
    ]


def reach(bounds, names):
    return min(number + len(set(own) - set(names)) for own, number in bounds)


def lists_below(names, top):
    """All lists of bounds with sets of these names whose reach of no names is at most so great.

    With each list these have all that are within it.
    """
    return [
        bounds for last in range(1, top + 1) for bounds in bound_lists(names, last) if reach(bounds, ()) <= top
    ]
