"""CHAINs next to others: just above and just below one, the least ones around several, the greatest ones within them.

All of them have sets of told NAMEs, a set that is handed in as named.
"""

from touchcaps.chains import chain_within, follows_from, height_of, lacking, reach_of, subsets, tight_chain


def chains_above(chain, named):
    """The CHAINs just above this one, which is not ()."""
    if named == ():
        return [(((), chain[0][1] + 1),)]
    found = []
    for place in range(len(chain)):
        # Where there is no choice, none of the kind comes in the place of this BOUND.
        for low in narrower(chain, place) or [()]:
            for high in wider(chain, place, named) or [()]:
                found.append((*chain[:place], *low, *high, *chain[place + 1:]))
    return found


def narrower(chain, place):
    """The choices of a BOUND with one NAME less and a greater number, each alone in a tuple."""
    names, number = chain[place]
    kept = ()
    if place > 0:
        kept, many = chain[place - 1]
        if many < number + 2:
            return []
    return [((tuple([own for own in names if own != name]), number + 1),) for name in names if name not in kept]


def wider(chain, place, named):
    """The choices of a BOUND with one NAME more and the same number, each alone in a tuple."""
    names, number = chain[place]
    others = named
    if place < len(chain) - 1:
        others, many = chain[place + 1]
        if len(others) - len(names) < number - many + 2:
            return []
    return [((tuple(sorted([*names, name])), number),) for name in others if name not in names]


def chains_below(chain, named):
    """The CHAINs just below this one, which is not ()."""
    height = height_of(chain, len(named))
    found = []
    for names in subsets(named):
        # What is just below is within, and its height is less by one: so one reach alone is less, by one.
        lower = chain_with(chain, (names, reach_of(chain, names) - 1))
        if lower is not None and height_of(lower, len(named)) == height - 1:
            found.append(lower)
    return found


def chain_with(chain, bound):
    """The CHAIN that lets through what keeps both; None if there is none. The BOUND does not follow from the CHAIN."""
    names, number = bound
    left = [own for own in chain if not follows_from(own, bound)]
    ahead = [own for own in left if lacking(own[0], names) == 0]
    behind = [own for own in left if lacking(names, own[0]) == 0]
    if number < 1 or len(ahead) + len(behind) < len(left):
        return None
    return (*ahead, bound, *behind)


def orders_of(names):
    """All orders of these NAMEs."""
    orders = [()]
    for name in names:
        orders = [(*order[:place], name, *order[place:]) for order in orders for place in range(len(order) + 1)]
    return orders


def beginnings(order):
    """The sets of the first so many NAMEs of the order, () and all of them included."""
    return [tuple(sorted(order[:size])) for size in range(len(order) + 1)]


def without_doubles(parts):
    found = []
    for part in parts:
        if part not in found:
            found.append(part)
    return found


def least_around_chains(chains, named):
    """The least ones of the CHAINs within which all of these are; () is none of these."""
    # Around are those of which each number is at least the greatest reach that one of these has over the same names.
    around = without_doubles([
        tight_chain([(names, max([reach_of(chain, names) for chain in chains])) for names in beginnings(order)])
        for order in orders_of(named)
    ])
    return [one for one in around if not any([chain_within(other, one) for other in around if other != one])]


def greatest_within_chains(chains, named):
    """The greatest ones of the CHAINs that are within all of these; () is none of these."""
    asked = without_doubles([bound for chain in chains for bound in chain])
    within = without_doubles([
        tight_chain(list(zip(beginnings(order), reaches)))
        for order in orders_of(named) for reaches in greatest_reaches(asked, order)
    ])
    return [one for one in within if not any([chain_within(one, other) for other in within if other != one])]


def greatest_reaches(asked, order):
    """The greatest CHAINs from which all these BOUNDs follow, and whose sets are beginnings of the order.

    Each is told by the list of its reaches over these beginnings.
    """
    found = reaches_for(asked[0], order)
    for bound in asked[1:]:
        further = reaches_for(bound, order)
        found = greatest([[min(pair) for pair in zip(one, other)] for one in found for other in further])
    return found


def reaches_for(bound, order):
    """The same for one BOUND. Each of them has a single BOUND, too."""
    names, number = bound
    found = []
    for size in range(len(order) + 1):
        least = number - lacking(order[:size], names)
        if least >= 1:
            found.append([least + max(0, size - place) for place in range(len(order) + 1)])
    return greatest(found)


def greatest(found):
    """Those of these lists of reaches that are not under another one everywhere, equal ones once."""
    unlike = without_doubles(found)
    return [one for one in unlike if not any([other != one and is_under(one, other) for other in unlike])]


def is_under(one, other):
    return all([less <= more for less, more in zip(one, other)])
