"""The least CHAINs around several ones, and the greatest ones within them.

All of them have sets of told NAMEs. Here a set is told by its place among all of these sets, as subsets() has them: a
number whose digits, if it is written with two of them, tell which NAMEs the set has. So `|` and `&` do with places what
they do with sets. A BOUND is (place, number). A path is a list of places, from that of the set without NAMEs to that of
all, each with one NAME more than the one ahead of it.
"""

from touchcaps.chains import subsets, tight_chain


def bounds_by_places(chain, sets):
    places = {names: place for place, names in enumerate(sets)}
    return [(places[names], number) for names, number in chain]


def chain_by_places(bounds, sets):
    """The CHAIN of BOUNDs that lie within one another, those with fewer NAMEs first."""
    return tight_chain([(sets[place], number) for place, number in bounds])


def reaches_by_places(bounds, sizes):
    """The reach of the BOUNDs over each set; sizes tells how many NAMEs each set has."""
    return [min([number + sizes[own | at] for own, number in bounds]) - size for at, size in enumerate(sizes)]


def paths_over(sizes):
    """All paths."""
    singles = [place for place, size in enumerate(sizes) if size == 1]
    found = [[0]]
    for _ in singles:
        found = [[*path, path[-1] + one] for path in found for one in singles if path[-1] & one == 0]
    return found


def least_around_chains(chains, named):
    """The least ones of the CHAINs within which all of these are; () is none of these."""
    sets = subsets(named)
    sizes = [len(names) for names in sets]
    reaches = [reaches_by_places(bounds_by_places(chain, sets), sizes) for chain in chains]
    # Around are those of which no reach is less than the greatest one that one of these has over the same set.
    least = [max(numbers) for numbers in zip(*reaches)]
    found, strange = [], []
    # Those with the least reaches in all come first: so what is found has nothing unlike it within it.
    for path in sorted(paths_over(sizes), key=lambda places: sum([least[at] for at in places])):
        # One that is found is within that of the path if its reaches are not greater anywhere on the path.
        if all([any([place in greater for place in path]) for greater in strange]):
            bounds = [(place, least[place]) for place in path]
            found.append(chain_by_places(bounds, sets))
            own = reaches_by_places(bounds, sizes)
            strange.append([place for place, number in enumerate(least) if own[place] > number])
    return found


def greatest_within_chains(chains, named):
    """The greatest ones of the CHAINs that are within all of these; () is none of these."""
    sets = subsets(named)
    sizes = [len(names) for names in sets]
    asked = needed_bounds([bound for chain in chains for bound in bounds_by_places(chain, sets)], sizes)
    if all([one[0] & other[0] == one[0] for one, other in zip(asked, asked[1:])]):
        return [chain_by_places(asked, sets)]
    within = [(path, reaches) for path in paths_over(sizes) for reaches in greatest_reaches(asked, path, sizes)]
    found, kept = [], []
    # Those with the greatest reaches in all come first: so what is found is within nothing unlike it.
    for path, reaches in sorted(within, key=lambda pair: sum(pair[1]), reverse=True):
        bounds = list(zip(path, reaches))
        if not any([follow_all(others, bounds, sizes) for others in kept]):
            found.append(chain_by_places(bounds, sets))
            kept.append(bounds_by_places(found[-1], sets))
    return found


def follow_all(asked, bounds, sizes):
    """Whether each BOUND that is asked for follows from one of the others."""
    return all([
        any([number + sizes[own | place] <= many + sizes[place] for own, number in bounds]) for place, many in asked
    ])


def needed_bounds(bounds, sizes):
    """Those of the BOUNDs that follow from no other one, equal ones once, those with fewer NAMEs first."""
    unlike = sorted(set(bounds))
    needed = [
        bound for bound in unlike
        if not follow_all((bound,), [other for other in unlike if other != bound], sizes)
    ]
    return sorted(needed, key=lambda bound: sizes[bound[0]])


def greatest_reaches(asked, path, sizes):
    """The greatest CHAINs with sets on this path from which all BOUNDs follow that are asked for.

    Each is told by the tuple of its reaches on the path.
    """
    found = reaches_for(asked[0], path, sizes)
    for bound in asked[1:]:
        further = reaches_for(bound, path, sizes)
        found = greatest([least_of(one, other) for one in found for other in further])
    return found


def least_of(one, other):
    return tuple([less if less < more else more for less, more in zip(one, other)])


def reaches_for(bound, path, sizes):
    """The same for one BOUND. Each of them has a single BOUND, too."""
    own, number = bound
    numbers = [number + sizes[own] - sizes[own | place] for place in path]
    # The greatest ones have their BOUND behind some NAMEs of its set, and ahead of one that its set lacks.
    return [
        tuple([many + max(0, at - other) for other in range(len(path))]) for at, many in enumerate(numbers)
        if many >= 1 and many not in numbers[at + 1:] and (at == 0 or numbers[at - 1] == many)
    ]


def greatest(found):
    """Those of these tuples of reaches that are not under another one everywhere, equal ones once."""
    unlike = sorted(set(found))
    return [one for one in unlike if not any([one != other and is_under(one, other) for other in unlike])]


def is_under(one, other):
    return all([less <= more for less, more in zip(one, other)])
