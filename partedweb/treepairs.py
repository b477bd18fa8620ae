"""Pairs of a tree's places parted at no more than two times what flows along their ways, and the checker."""

from partedweb.kinds import are_numbers, is_list, is_number, is_tuple_of
from partedweb.pairs import parts_pairs
from partedweb.trees import behind_each
from partedweb.webs import heads_of, is_cut, tie_weights, ties_along, weight_of, without


def pairs_on_tree(web, pairs):
    """A tuple (weight, cut, amounts): a cut that parts the pairs, and amounts that weigh half as much at least."""
    lines = lines_up(web)
    ways = [way_between(lines[a], lines[b]) for a, b in pairs]
    amounts, full = filled(web, [ties_along(way) for way, height in ways], order_of(ways))
    cut = list(full)
    # The last one first: so a way along which something flows is cut at most once going up, and once going down.
    for pair in reversed(full):
        fewer = [other for other in cut if other != pair]
        if parts_pairs(web, pairs, fewer):
            cut = fewer
    return (weight_of(web, cut), sorted(cut), amounts)


def lines_up(web):
    """For each place of a tree the places from it up to place 0."""
    lines = {0: [0]}
    for place, nexts in behind_each(web).items():
        for far, weight in nexts:
            lines[far] = [far] + lines[place]
    return lines


def way_between(line, other):
    """A tuple (way, height): from the beginning of one line up to where it meets the other, and down to its beginning.

    The height is how many places there are from the highest one of the way up to place 0.
    """
    up = [place for place in line if place not in other]
    down = [place for place in other if place not in line]
    return (up + [line[len(up)]] + down[::-1], len(line) - len(up))


def order_of(ways):
    """The numbers of the ways, those that stay the farthest from place 0 first."""
    return [number for height, number in sorted([(-height, number) for number, (way, height) in enumerate(ways)])]


def filled(web, alongs, order):
    """A tuple (amounts, full): way by way as much flows along its ties as there is room for; the ties as they fill."""
    room = tie_weights(web)
    amounts = [0] * len(alongs)
    full = []
    for number in order:
        amounts[number] = min([room[pair] for pair in alongs[number]])
        for pair in alongs[number]:
            room[pair] -= amounts[number]
        full.extend([pair for pair in alongs[number] if room[pair] == 0 and pair not in full])
    return (amounts, full)


def shows_on_tree_pairs(web, pairs, told):
    """Whether told is a tuple (weight, cut, amounts) as pairs_on_tree tells, of any cut and amounts that are so."""
    if not is_tuple_of(told, 3):
        return False
    weight, cut, amounts = told
    if not is_number(weight) or not is_cut(web, cut) or not are_loads(web, pairs, amounts):
        return False
    return parts_pairs(web, pairs, cut) and weight == weight_of(web, cut) and weight <= 2 * sum(amounts)


def are_loads(web, pairs, thing):
    """Whether a thing is a list with a number from 0 for each pair, on no tie more together than its weight."""
    if not is_list(thing) or len(thing) != len(pairs) or not are_numbers(thing):
        return False
    return all([amount >= 0 for amount in thing]) and all([load_on(web, pairs, thing, tie) <= tie[2] for tie in web[1]])


def load_on(web, pairs, amounts, tie):
    """What goes by a tree's tie: what goes between places that hang together by it alone."""
    heads = heads_of(without(web, [tie[:2]]))
    return sum([amount for (a, b), amount in zip(pairs, amounts) if heads[a] != heads[b]])
