"""The order of Rules: which ones never show more than others, and which ones are next to others."""

from touchcaps.between import greatest_within_chains, least_around_chains
from touchcaps.chains import chain_within, height_of, reach_of
from touchcaps.forms import form_of, plain, rule_of
from touchcaps.neighbours import chains_above, chains_below
from touchcaps.rows import new_names
from touchcaps.shapes import CONSTANT_BOUNDS, check_names, is_bounded, names_of, shows_no_more


def compare(p, q):
    form, other = form_of(p), form_of(q)
    if form == other:
        return "alike"
    if shows_no_more(form, other):
        return "shuffled" if shows_no_more(other, form) else "within"
    return "around" if shows_no_more(other, form) else "neither"


def reach(p, names):
    """How many NAMEs that are none of these stand up to one that p shows, at most; None if there is no such number."""
    return reach_of(form_of(p)[2], names)


def outside_row(p, q):
    """A ROW of which p shows a NAME that q does not show; None if p is within q."""
    form, other = form_of(p), form_of(q)
    if shows_no_more(form, other):
        return None
    if any([name not in other[0] for name in form[0]]):
        return ()
    # Nothing of the front of p is gone for q: so p shows what is gone for q alone wherever it stands in front.
    kept = [name for name in other[1] if name not in form[1]]
    if kept != []:
        return (kept[0],)
    return crowded_row(form, other)


def crowded_row(form, other):
    """A ROW with a NAME that keeps the CHAIN of the first FORM and not that of the other one."""
    chain, wide = form[2], other[2]
    broken = [bound for bound in wide if not chain_within(chain, (bound,))]
    # The numbers fall: so the last one is broken by the fewest NAMEs.
    names, number = broken[-1]
    # The CHAIN lets the last of so many through most easily if many of them are in its sets, in the lesser ones first.
    ahead = []
    for own, _ in chain:
        ahead.extend([name for name in own if name not in names and name not in ahead])
    ahead = ahead[:number]
    return (*ahead, *new_names(number + 1 - len(ahead), (*names_of(form), *names_of(other))))


def parting_row(p, q):
    """A ROW of which p and q make unlike ROWs; None if they are alike."""
    if p == q:
        return None
    for row in (outside_row(p, q), outside_row(q, p)):
        if row is not None:
            return row
    # Their fronts alone are unlike, and these are what becomes of ().
    return ()


def height(p):
    form = form_of(p)
    return height_of(form[2], len(names_of(form))) if is_bounded(form) else None


def rules_with(form, chains):
    """The Rules with the front of this FORM, with the same NAMEs gone, and with these CHAINs."""
    row, lost, _ = form
    return [rule_of((row, lost, chain)) for chain in chains]


def above(p):
    """The Rules just above p."""
    form = form_of(p)
    return rules_with(form, chains_above(form[2], names_of(form))) if is_bounded(form) else []


def below(p):
    """The Rules just below p."""
    form = form_of(p)
    return rules_with(form, chains_below(form[2], names_of(form))) if is_bounded(form) else []


def climb(p, q):
    """Rules from p to q, each just above the one ahead of it; None if there are none."""
    form, other = form_of(p), form_of(q)
    if not is_bounded(form) or not is_bounded(other) or form[:2] != other[:2]:
        return None
    if not shows_no_more(form, other):
        return None
    named = names_of(form)
    chains = [form[2]]
    # There is always one between, as long as q is not reached.
    while chains[-1] != other[2]:
        higher = [chain for chain in chains_above(chains[-1], named) if chain_within(chain, other[2])]
        chains.append(higher[0])
    return rules_with(form, chains)


def forms_alike_in_names(rules):
    """The FORMs of the Rules; raises OtherNames(name) for the first that is not alike in names to the first of all."""
    forms = [form_of(rule) for rule in rules]
    for form in forms:
        check_names(forms[0], form)
    return forms


def least_around(rules):
    """The least Rules within which all of rules are."""
    forms = forms_alike_in_names(rules)
    # What is constant is within all others that are alike in names.
    chains = [form[2] for form in forms if form[2] != CONSTANT_BOUNDS]
    if chains == []:
        return [plain(rules[0])]
    if () in chains:
        return rules_with(forms[0], [()])
    return rules_with(forms[0], least_around_chains(chains, names_of(forms[0])))


def greatest_within(rules):
    """The greatest Rules that are within all of rules."""
    forms = forms_alike_in_names(rules)
    chains = [form[2] for form in forms if form[2] != ()]
    if CONSTANT_BOUNDS in chains:
        return rules_with(forms[0], [CONSTANT_BOUNDS])
    if chains == []:
        return [plain(rules[0])]
    return rules_with(forms[0], greatest_within_chains(chains, names_of(forms[0])))
