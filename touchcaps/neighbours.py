"""CHAINs just above and just below others. They have sets of told NAMEs, a set that is handed in as named."""

from touchcaps.chains import follows_from, height_of, lacking, reach_of, subsets


def chains_above(chain, named):
    """The CHAINs just above this one, which is not ()."""
    if named == ():
        return [(((), chain[0][1] + 1),)]
    found = []
    for place in range(len(chain)):
        # Where there is no choice, none of the kind comes in the place of this BOUND.
        for low in narrower(chain, place) or [()]:
            for high in wider(chain, place, named) or [()]:
                found.append((*chain[:place], *low, *high, *chain[place + 1:]))
    return found


def narrower(chain, place):
    """The choices of a BOUND with one NAME less and a greater number, each alone in a tuple."""
    names, number = chain[place]
    kept = ()
    if place > 0:
        kept, many = chain[place - 1]
        if many < number + 2:
            return []
    return [((tuple([own for own in names if own != name]), number + 1),) for name in names if name not in kept]


def wider(chain, place, named):
    """The choices of a BOUND with one NAME more and the same number, each alone in a tuple."""
    names, number = chain[place]
    others = named
    if place < len(chain) - 1:
        others, many = chain[place + 1]
        if len(others) - len(names) < number - many + 2:
            return []
    return [((tuple(sorted([*names, name])), number),) for name in others if name not in names]


def chains_below(chain, named):
    """The CHAINs just below this one, which is not ()."""
    height = height_of(chain, len(named))
    found = []
    for names in subsets(named):
        # What is just below is within, and its height is less by one: so one reach alone is less, by one.
        lower = chain_with(chain, (names, reach_of(chain, names) - 1))
        if lower is not None and height_of(lower, len(named)) == height - 1:
            found.append(lower)
    return found


def chain_with(chain, bound):
    """The CHAIN that lets through what keeps both; None if there is none. The BOUND does not follow from the CHAIN."""
    names, number = bound
    left = [own for own in chain if not follows_from(own, bound)]
    ahead = [own for own in left if lacking(own[0], names) == 0]
    behind = [own for own in left if lacking(names, own[0]) == 0]
    if number < 1 or len(ahead) + len(behind) < len(left):
        return None
    return (*ahead, bound, *behind)
