"""Rules put behind one another, and taken apart again."""

from touchcaps.chains import tight_chain
from touchcaps.forms import form_of, front, rule_of
from touchcaps.rules import Rule
from touchcaps.shapes import CONSTANT_BOUNDS, names_of


def steady(p):
    """Whether p, done twice, does what it does once."""
    return p >> p == p


def settles(p):
    """How many times p has to be done until no further time changes anything."""
    if p == Rule():
        return 0
    return 1 if steady(p) else 2


def idle_behind(p, other):
    return p >> other == p


def idle_ahead(p, other):
    return other >> p == p


def either_order(p, other):
    return p >> other == other >> p


def bounds_over(bounds, names):
    """Those of the BOUNDs whose sets have all these NAMEs."""
    return tuple([bound for bound in bounds if all([name in bound[0] for name in names])])


def rest_of(p, whole):
    """A Rule that makes whole of p, done behind it; None if there is none."""
    row, lost, found = form_of(whole)
    # It names all that whole names: so what it counts behind p is what it counts ahead, and p leaves it no choice.
    kept = found if found == CONSTANT_BOUNDS else bounds_over(found, names_of(form_of(p)))
    rest = rule_of((row, lost, kept))
    return rest if p >> rest == whole else None


def front_of(p, whole):
    """A Rule that makes whole of p, done ahead of it; None if there is none."""
    form = form_of(whole)
    # p leaves what stands ahead of it in front, behind its own front; all else that whole names may be gone by then.
    # What is constant makes itself of anything, so of this, too.
    row = form[0][len(front(p)):]
    lost = () if form[2] == CONSTANT_BOUNDS else tuple([name for name in names_of(form) if name not in row])
    ahead = rule_of((row, lost, form[2]))
    return ahead if ahead >> p == whole else None


def meeting(p, other):
    """A pair of Rules that make the same, not a constant, behind p and behind other; None if there is none."""
    form, far = form_of(p), form_of(other)
    if CONSTANT_BOUNDS in (form[2], far[2]):
        return None
    every = tuple(sorted(set(names_of(form)) | set(names_of(far))))
    common = [bound for bound in form[2] if bound in far[2]]
    # Where both have such BOUNDs, all these sets are equal: so all together lie within one another.
    wide = [*bounds_over(form[2], names_of(far)), *bounds_over(far[2], names_of(form)), (every, 1)]
    kept = sorted([*common, *wide], key=lambda bound: len(bound[0]))
    whole = rule_of(((), every, tight_chain(kept)))
    x, y = rest_of(p, whole), rest_of(other, whole)
    return None if x is None or y is None else (x, y)
