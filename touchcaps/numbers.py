"""Rules counted and numbered."""

from touchcaps.chains import chains_by_fall, chains_to, height_of, reach_of, shifted
from touchcaps.errors import NoNumber, NotBetween
from touchcaps.forms import form_of, rule_of
from touchcaps.rows import all_rows
from touchcaps.shapes import check_names, names_of


def how_many_bounds(number):
    """How many lists of bounds there are with sets of so many told NAMEs and with a told last number."""
    # They are as many as ROWs of these NAMEs: no NAME, or one of them first and then a ROW of all others.
    many = 1
    for names in range(1, number + 1):
        many = names * many + 1
    return many


def how_many(number):
    """How many bounded Rules, no two alike, name so many told NAMEs and have a told last number."""
    # Each ROW of these NAMEs can be the front.
    return how_many_bounds(number) * how_many_bounds(number)


def how_many_to(number, most):
    """How many Rules that are not constant, no two alike, name so many told NAMEs, with no number above most."""
    lists = sum([many * max(0, most - fall) for fall, many in enumerate(chains_by_fall(number))])
    return how_many_bounds(number) * (lists + 1)


def nth(names, last, number):
    """The bounded Rule that names just these NAMEs, with this last number and this number."""
    fronts, chains = all_rows(names), chains_to(names, last)
    if number < 0 or number >= len(fronts) * len(chains):
        raise NoNumber(number)
    at, place = divmod(number, len(chains))
    row = fronts[at]
    return rule_of((row, [name for name in names if name not in row], chains[place]))


def number_of(rule):
    """The number of a bounded Rule."""
    form = form_of(rule)
    row, _, chain = form
    names = names_of(form)
    chains = chains_to(names, chain[-1][1])
    return all_rows(names).index(row) * len(chains) + chains.index(chain)


def chains_between(low, high, named):
    """The CHAINs from low to high with sets of what is named, by height, and of one height by Python's order."""
    found = []
    for chain in chains_to(named, 1):
        # Within which low is, if all its numbers are greater by so many ..
        least = max([reach_of(low, names) - number for names, number in chain])
        # .. and which is within high, if they are greater by no more than so many.
        most = min([number - reach_of(chain, names) for names, number in high])
        found.extend([shifted(chain, more) for more in range(max(0, least), most + 1)])
    return sorted(found, key=lambda own: (height_of(own, len(named)), own))


def between(p, q):
    """The CHAINs between those of p and q, in their order; raises OtherNames(name)."""
    form, other = form_of(p), form_of(q)
    check_names(form, other)
    return chains_between(form[2], other[2], names_of(form))


def many_between(p, q):
    """How many Rules with the front of p and with the same NAMEs gone are from p to q."""
    return len(between(p, q))


def nth_between(p, q, number):
    """The one of them with this number."""
    chains = between(p, q)
    if number < 0 or number >= len(chains):
        raise NoNumber(number)
    row, lost, _ = form_of(p)
    return rule_of((row, lost, chains[number]))


def rank_between(p, q, third):
    """The number of the one of them that has the bounds of the third Rule."""
    chains = between(p, q)
    form = form_of(third)
    check_names(form_of(p), form)
    if form[2] not in chains:
        raise NotBetween(third.text)
    return chains.index(form[2])
