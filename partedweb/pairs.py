"""Pairs of places that must come apart, and the lightest cut that parts them."""

from partedweb.webs import beside_each, heads_of, ties_along, weight_of, without


def pairs_of(groups):
    """The rising list of all pairs of places within one of the groups."""
    return sorted({(a, b) for group in groups for a in group for b in group if a < b})


def parts_pairs(web, pairs, cut):
    """Whether no pair hangs together without the ties of the cut."""
    heads = heads_of(without(web, cut))
    return all([heads[a] != heads[b] for a, b in pairs])


def least_for_pairs(web, pairs):
    """A tuple (weight, cut, tree): a lightest cut that parts the pairs, and a tree by which none is lighter."""
    every = [tie[:2] for tie in web[1]]
    best, tree = lightest(web, pairs, [], [], (weight_of(web, every), every))
    return best + (tree,)


def lightest(web, pairs, cut, kept, best):
    """A tuple (best, tree): a lightest of the best (weight, cut) and of those with these ties cut and kept, its tree.

    The best may become lighter later on; what is too dear for a heavier one is so for it, too.
    """
    weight = weight_of(web, cut)
    if weight < best[0] and parts_pairs(web, pairs, cut):
        best = (weight, sorted(cut))
    if weight >= best[0]:
        return (best, ("dear",))
    number, way = loosest_way(web, pairs, cut, kept)
    loose = [pair for pair in ties_along(way) if pair not in kept]
    trees = []
    for at, pair in enumerate(loose):
        best, tree = lightest(web, pairs, cut + [pair], kept + loose[:at], best)
        trees.append(tree)
    return (best, ("way", number, way, tuple(trees)))


def loosest_way(web, pairs, cut, kept):
    """A tuple (number, way) of a pair that still hangs together, by the fewest ties that aren't kept.

    The fewer they are, the fewer trees there are behind it. There always is one: behind a way fewer ties are kept
    than it has loose ones, and any other way has as many, so no pair comes to hang together by kept ties alone.
    """
    beside = beside_each(without(web, cut))
    found = []
    for number, (a, b) in enumerate(pairs):
        ways = ways_from(beside, kept, a)
        if b in ways:
            found.append((ways[b][0], number, ways[b][1]))
    return min(found)[1:]


def ways_from(beside, kept, start):
    """For each place that hangs together with the start a tuple (loose, way): by the fewest ties that aren't kept."""
    ways = {start: (0, [start])}
    waiting = [start]
    while waiting:
        place = waiting.pop()
        loose, way = ways[place]
        for far, weight in beside[place]:
            more = loose if (min(place, far), max(place, far)) in kept else loose + 1
            if far not in ways or more < ways[far][0]:
                ways[far] = (more, way + [far])
                waiting.append(far)
    return ways
