"""BOUNDs, and CHAINs of them: what decides which of the NAMEs that a Rule does not name it shows.

A BOUND is (names, number). A CHAIN is a tuple of BOUNDs whose sets lie within one another, the one with fewer NAMEs
first, none following from another one: see point 6 of the document. The CHAIN () lets all NAMEs through.
"""

from math import comb


def lacking(names, others):
    """How many of these NAMEs the others do not have."""
    return len(set(names) - set(others))


def follows_from(bound, other):
    names, number = bound
    others, many = other
    return number >= many + lacking(others, names)


def tight_chain(bounds):
    """The CHAIN of BOUNDs whose sets lie within one another, those with fewer names ahead."""
    # From a BOUND with fewer names another one follows if its number is not less.
    falling = []
    for names, number in bounds:
        if falling == [] or number < falling[-1][1]:
            falling.append((names, number))
    # From one with more names another one follows if its number is as much greater as it has fewer names, or more.
    kept = []
    for names, number in falling[::-1]:
        if kept == [] or number + len(names) < kept[-1][1] + len(kept[-1][0]):
            kept.append((names, number))
    return tuple(kept[::-1])


def chain_within(chain, wide):
    """Whether each NAME, of each ROW, that keeps the first CHAIN keeps the other one."""
    # All NAMEs that keep a CHAIN keep another BOUND exactly if it follows from a single one of the CHAIN.
    return all([any([follows_from(bound, own) for own in chain]) for bound in wide])


def reach_of(chain, names):
    """The least number that a BOUND with these names has if it follows from the CHAIN; None for the CHAIN ()."""
    return min([number + lacking(own, names) for own, number in chain], default=None)


def seen_of(chain, named, row):
    """What a Rule with this CHAIN that names these NAMEs shows of the ROW behind its front."""
    found = []
    left = [number for _, number in chain]
    for name in row:
        left = [many if name in names else many - 1 for many, (names, _) in zip(left, chain)]
        # What breaks a BOUND breaks it for all behind it, too.
        if -1 in left:
            break
        if name not in named:
            found.append(name)
    return tuple(found)


def height_of(chain, many):
    """The height of a Rule with this CHAIN that names so many NAMEs."""
    # The beginnings of an order that comes by all sets lie within these or have all that they have.
    reaches = [min([number + max(0, len(names) - place) for names, number in chain]) for place in range(many + 1)]
    return sum(reaches) - len(reaches)


def subsets(names):
    """All sets of NAMEs of this set."""
    found = [()]
    for name in names:
        found = [*found, *[(*own, name) for own in found]]
    return found


def chains_to(names, last):
    """All CHAINs but () with sets of these NAMEs and with this last number, in Python's order."""
    found = []
    newest = [((own, last),) for own in subsets(names)]
    while newest != []:
        found.extend(newest)
        newest = [longer for chain in newest for longer in longer_chains(chain)]
    return sorted(found)


def longer_chains(chain):
    """The CHAINs with one BOUND more, ahead of all others."""
    names, number = chain[0]
    return [
        ((own, number + fall), *chain) for own in subsets(names) for fall in range(1, len(names) - len(own))
    ]


def shifted(chain, more):
    """The CHAIN with all numbers greater by so many."""
    return tuple([(names, number + more) for names, number in chain])


def chains_by_fall(many):
    """For each number from 0: how many CHAINs with a told last number, but for (), have a first one greater by it.

    Their sets are sets of so many told NAMEs. Numbers fall by less than there are NAMEs: so none is left out.
    """
    ending = falls_to(many)
    return [sum([comb(many, last) * ending[last][fall] for last in range(fall, many + 1)]) for fall in range(many + 1)]


def falls_to(many):
    """For each size up to this one: how many CHAINs whose last set is a told one of so many NAMEs fall by each number.

    Just as many go on behind a set that so many NAMEs lack, and fall by this number till the last one.
    """
    ending = []
    for size in range(many + 1):
        ending.append(counts_ending(size, ending))
    return ending


def counts_ending(size, ending):
    """The same for one size; ending has it for each lesser size."""
    counts = [1, *[0] * size]
    for fewer in range(size - 1):
        for total, shorter in enumerate(ending[fewer]):
            for fall in range(1, size - fewer):
                counts[total + fall] += comb(size, fewer) * shorter
    return counts
