"""Rules counted and numbered."""

from touchcaps.chains import chains_by_fall, chains_to, falls_to, height_of, lacking, reach_of, shifted, subsets
from touchcaps.errors import NoNumber, NotBetween
from touchcaps.forms import form_of, rule_of
from touchcaps.rows import outside
from touchcaps.shapes import check_names, names_of


def how_many_bounds(number):
    """How many lists of bounds there are with sets of so many told NAMEs and with a told last number."""
    # They are as many as ROWs of these NAMEs: no NAME, or one of them first and then a ROW of all others.
    many = 1
    for names in range(1, number + 1):
        many = names * many + 1
    return many


def how_many(number):
    """How many bounded Rules, no two alike, name so many told NAMEs and have a told last number."""
    # Each ROW of these NAMEs can be the front.
    return how_many_bounds(number) * how_many_bounds(number)


def how_many_to(number, most):
    """How many Rules that are not constant, no two alike, name so many told NAMEs, with no number above most."""
    lists = sum([many * max(0, most - fall) for fall, many in enumerate(chains_by_fall(number))])
    return how_many_bounds(number) * (lists + 1)


def nth_row(names, number):
    """The ROW of these NAMEs with this number, in Python's order."""
    row = []
    left = list(names)
    # Ahead of those that go on stands the one that ends; as many go on with each NAME.
    while number > 0:
        at, number = divmod(number - 1, how_many_bounds(len(left) - 1))
        row.append(left.pop(at))
    return tuple(row)


def number_of_row(names, row):
    """The number of a ROW of these NAMEs."""
    number = 0
    left = list(names)
    for name in row:
        at = left.index(name)
        left.pop(at)
        number += 1 + at * how_many_bounds(len(left))
    return number


def first_bounds(sets, ways, last):
    """The BOUNDs that a CHAIN with this last number can begin with, in Python's order, each with how many begin so.

    The sets are all sets of the NAMEs, in Python's order. For each number of NAMEs that a set lacks, ways tells by how
    far they fall behind it to the last number: how many do by 0, by 1 and so on.
    """
    return [((names, last + fall), many) for names in sets for fall, many in enumerate(ways[-1 - len(names)])]


def next_bounds(sets, ways, last, ahead):
    """Likewise those that can stand behind a BOUND."""
    names, number = ahead
    found = []
    wider = [others for others in sets if len(others) > len(names) + 1 and lacking(names, others) == 0]
    for own in wider:
        falls = ways[-1 - len(own)]
        # It falls by less than there are NAMEs more.
        low, high = max(last, number + 1 - len(own) + len(names)), min(number, last + len(falls))
        found.extend([((own, less), falls[less - last]) for less in range(low, high)])
    return found


def nth_chain(names, last, number):
    """The CHAIN but () with sets of these NAMEs, with this last number and this number, in Python's order."""
    sets, ways = sorted(subsets(names)), falls_to(len(names))
    chain = ()
    left = number
    ahead = first_bounds(sets, ways, last)
    while ahead != []:
        for bound, many in ahead:
            if left < many:
                chain = (*chain, bound)
                break
            left -= many
        ahead = next_bounds(sets, ways, last, chain[-1])
    return chain


def number_of_chain(names, chain):
    """The number of a CHAIN but () among those with sets of these NAMEs and with its last number."""
    sets, ways = sorted(subsets(names)), falls_to(len(names))
    last = chain[-1][1]
    number = 0
    ahead = first_bounds(sets, ways, last)
    for own in chain:
        number += sum([many for bound, many in ahead if bound < own])
        ahead = next_bounds(sets, ways, last, own)
    return number


def nth(names, last, number):
    """The bounded Rule that names just these NAMEs, with this last number and this number."""
    lists = how_many_bounds(len(names))
    if number < 0 or number >= lists * lists:
        raise NoNumber(number)
    at, place = divmod(number, lists)
    row = nth_row(names, at)
    return rule_of((row, outside(names, row), nth_chain(names, last, place)))


def number_of(rule):
    """The number of a bounded Rule."""
    form = form_of(rule)
    names = names_of(form)
    return number_of_row(names, form[0]) * how_many_bounds(len(names)) + number_of_chain(names, form[2])


def chains_between(low, high, named):
    """The CHAINs from low to high with sets of what is named, by height, and of one height by Python's order."""
    found = []
    for chain in chains_to(named, 1):
        # Within which low is, if all its numbers are greater by so many ..
        least = max([reach_of(low, names) - number for names, number in chain])
        # .. and which is within high, if they are greater by no more than so many.
        most = min([number - reach_of(chain, names) for names, number in high])
        found.extend([shifted(chain, more) for more in range(max(0, least), most + 1)])
    return sorted(found, key=lambda own: (height_of(own, len(named)), own))


def between(p, q):
    """The CHAINs between those of p and q, in their order; raises OtherNames(name)."""
    form, other = form_of(p), form_of(q)
    check_names(form, other)
    return chains_between(form[2], other[2], names_of(form))


def many_between(p, q):
    """How many Rules with the front of p and with the same NAMEs gone are from p to q."""
    return len(between(p, q))


def nth_between(p, q, number):
    """The one of them with this number."""
    chains = between(p, q)
    if number < 0 or number >= len(chains):
        raise NoNumber(number)
    row, lost, _ = form_of(p)
    return rule_of((row, lost, chains[number]))


def rank_between(p, q, third):
    """The number of the one of them that has the bounds of the third Rule."""
    chains = between(p, q)
    form = form_of(third)
    check_names(form_of(p), form)
    if form[2] not in chains:
        raise NotBetween(third.text)
    return chains.index(form[2])
