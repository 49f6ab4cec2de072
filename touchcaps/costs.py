"""What rules cost: steps that are not needed, and the fewest or cheapest ones that do the same."""

from touchcaps.behind import rest_of
from touchcaps.forms import form_of
from touchcaps.rules import Rule
from touchcaps.shapes import CONSTANT_BOUNDS, constant_steps, names_of, row_behind, shape_of
from touchcaps.steps import Step


def needless(rule):
    """The places of its steps each of which can be left out by itself."""
    steps = rule.steps
    form = shape_of(steps)
    return tuple([place for place in range(len(steps)) if shape_of((*steps[:place], *steps[place + 1:])) == form])


def lacking_bounds(bounds, name):
    """How many of the BOUNDs do not have the NAME among their names."""
    return len([1 for names, _ in bounds if name not in names])


def greatest_behind(row, numbers):
    """For each NAME of the ROW the greatest number of it and those behind it."""
    found = {}
    greatest = 0
    for name in row[::-1]:
        greatest = max(greatest, numbers[name])
        found[name] = greatest
    return found


def touched_once(rule):
    """The NAMEs of front that one step is enough for: their block is not less than that of any NAME behind them."""
    front, _, bounds = form_of(rule)
    # The BOUND of a constant one has no NAMEs: so it makes no difference between them.
    blocks = {name: lacking_bounds(bounds, name) for name in front}
    greatest = greatest_behind(front, blocks)
    return tuple(sorted([name for name in front if blocks[name] == greatest[name]]))


def further(rule, other):
    """A Rule with as few steps as can be that makes other of rule, done behind it; None if there is none."""
    if rest_of(rule, other) is None:
        return None
    return Rule(further_steps(form_of(rule), form_of(other), "forget"))


def fewest(rule):
    """An alike Rule with as few steps as can be."""
    return Rule(further_steps(form_of(Rule()), form_of(rule), "forget"))


def price_of(rule, prices):
    return sum([prices[step.kind] for step in rule.steps])


def cheapest(rule, prices):
    """An alike Rule whose price is as small as can be."""
    # The fewest steps of each kind are told by the FORM, but for the first steps of those that need two.
    kind = "touch" if prices["touch"] < prices["forget"] else "forget"
    return Rule(further_steps(form_of(Rule()), form_of(rule), kind))


def further_steps(form, whole, kind):
    """The fewest Steps that make the FORM whole of the other one, where there are any.

    Where a NAME of the front has to be named twice, the first time is a Step of this kind.
    """
    if whole[2] != CONSTANT_BOUNDS:
        return steps_to_rule(form, whole, kind)
    row = whole[0]
    if row == ():
        return steps_to_nothing(form)
    places = [place for place in range(len(row) + 1) if is_kept(row[place:], form[0])]
    return min([steps_to_constant(form, row, place) for place in places], key=len)


def is_kept(tail, front):
    """Whether the front has all these NAMEs, in their order."""
    return tuple([name for name in front if name in tail]) == tail


def steps_to_nothing(form):
    """The fewest Steps behind which () comes out of all ROWs."""
    front, _, bounds = form
    if bounds == CONSTANT_BOUNDS and len(front) < 2:
        return [Step("forget", name) for name in front]
    if front == ():
        return constant_steps(())
    return [Step("cap", 1), Step("forget", front[0])]


def steps_to_constant(form, row, place):
    """Steps behind which this ROW comes out of all, and which leave those alone that stand from this place on."""
    front, _, bounds = form
    strange = [name for name in front if name not in row]
    ahead = () if place == len(row) else front[:front.index(row[-1])]
    cut = [name for name in strange if name in ahead]
    steps = [*[Step("forget", name) for name in cut], *[Step("touch", name) for name in row[:place][::-1]]]
    if bounds == CONSTANT_BOUNDS and len(cut) == len(strange):
        return steps
    return [*steps, Step("cap", len(row))]


def steps_to_rule(form, whole, kind):
    """The fewest Steps that make whole, which is not constant, of the other FORM."""
    front, lost, bounds = whole
    named = names_of(form)
    caps = [bound for bound in bounds if bound not in form[2]]
    tail = min([place for place in range(len(front) + 1) if is_kept(front[place:], form[0])])
    head, gone = front[:tail], [name for name in lost if name not in form[1]]
    # A NAME stands in the sets of those BOUNDs whose caps come behind the first Step that names it. All these caps
    # count what was named ahead: so a NAME that was can wait.
    turns = {name: lacking_bounds(caps, name) for name in (*head, *gone)}
    last_turns = greatest_behind(head, turns)
    twice = [name for name in head if name not in named and turns[name] < last_turns[name]]
    steps = []
    for turn in range(len(caps) + 1):
        steps.extend([Step("forget", name) for name in gone if turns[name] == turn])
        steps.extend([Step(kind, name) for name in twice if turns[name] == turn])
        steps.extend([Step("touch", name) for name in head[::-1] if last_turns[name] == turn])
        if turn < len(caps):
            steps.append(Step("cap", caps[turn][1] + len(row_behind(steps, form[0]))))
    return steps
