"""What rows of Steps do to all ROWs, told as FORMs. Rules compare themselves by it, and forms are told by it.

A FORM is (front, gone, bounds), a BOUND is (names, number): see point 6 of the document.
"""

from touchcaps.chains import chain_within, tight_chain
from touchcaps.errors import OtherNames
from touchcaps.steps import Step, row_behind_step

CONSTANT_BOUNDS = (((), 0),)


def row_behind(steps, row):
    """The ROW behind all the Steps."""
    for step in steps:
        row = row_behind_step(step.kind, step.what, row)
    return tuple(row)


def with_name(names, name):
    """The set of the NAMEs of this set and of this NAME."""
    if name in names:
        return names
    return tuple(sorted([*names, name]))


def told_by(steps):
    """What becomes of the ROW (), the set of the NAMEs that the Steps name, and the BOUND of each cap.

    A number below 1 is among them exactly if the Steps are constant.
    """
    names = ()
    found = []
    # Of the ROW () the touched NAMEs alone are there. A cap takes one of them away only if its number is below 1.
    row = ()
    for step in steps:
        if step.kind == "cap":
            found.append((names, step.what - len(row)))
        else:
            names = with_name(names, step.what)
        row = row_behind_step(step.kind, step.what, row)
    return (row, names, found)


def shape_of(steps):
    """The FORM of the Steps."""
    # No cap takes away a NAME of the front: so it is what becomes of (), and so is the ROW of constant Steps.
    front, names, found = told_by(steps)
    if any([bound[1] < 1 for bound in found]):
        return (front, (), CONSTANT_BOUNDS)
    # Later caps know more NAMEs: so those with fewer names stand first already.
    return (front, tuple([name for name in names if name not in front]), tight_chain(found))


def constant_steps(row):
    """The plain Steps that make this ROW of every ROW."""
    if row == ():
        return [Step("touch", "a"), Step("cap", 1), Step("forget", "a")]
    return [*[Step("touch", name) for name in row[::-1]], Step("cap", len(row))]


def plain_steps(form):
    """The Steps of the plain Rule with this FORM."""
    front, gone, bounds = form
    if bounds == CONSTANT_BOUNDS:
        return constant_steps(front)
    steps = []
    lost = []
    for names, number in bounds:
        further = [name for name in names if name not in lost]
        steps.extend([Step("forget", name) for name in further])
        steps.append(Step("cap", number))
        lost.extend(further)
    steps.extend([Step("forget", name) for name in gone if name not in lost])
    steps.extend([Step("touch", name) for name in front[::-1]])
    return steps


def shows_no_more(form, other):
    """Whether, of every ROW, what has the first FORM shows only NAMEs that what has the other FORM shows."""
    front, gone, bounds = form
    wide_front, wide_gone, wide_bounds = other
    # Of () the fronts alone are shown.
    if not all([name in wide_front for name in front]):
        return False
    if bounds == CONSTANT_BOUNDS:
        return True
    # Of the ROW of a single NAME that it does not name, what is not constant shows this NAME, too.
    if not all([name in gone for name in wide_gone]):
        return False
    # There are always NAMEs that neither names. The BOUND of a constant FORM follows from no other one.
    return chain_within(bounds, wide_bounds)


def is_bounded(form):
    """Whether what has this FORM is not constant and has a BOUND."""
    return form[2] not in ((), CONSTANT_BOUNDS)


def names_of(form):
    """The set of the NAMEs that what has this FORM names."""
    front, gone, _ = form
    return tuple(sorted([*front, *gone]))


def check_names(form, other):
    """Raises OtherNames(name) if what has these FORMs is not alike in names."""
    fronts = sorted(set(form[0]) ^ set(other[0]))
    gones = sorted(set(form[1]) ^ set(other[1]))
    if fronts != [] or gones != []:
        raise OtherNames(min([*fronts, *gones]))
