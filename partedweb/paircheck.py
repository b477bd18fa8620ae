"""The checker of a tree by which no cut that parts the pairs is lighter than the told one."""

from partedweb.kinds import are_numbers, is_list, is_number, is_tuple_of
from partedweb.pairs import parts_pairs
from partedweb.webs import is_cut, tie_weights, ties_along, weight_of


def shows_for_pairs(web, pairs, told):
    """Whether told is a tuple (weight, cut, tree) of a cut of this weight that parts the pairs, and a tree for it."""
    if not is_tuple_of(told, 3):
        return False
    weight, cut, tree = told
    if not is_number(weight) or not is_cut(web, cut):
        return False
    if weight_of(web, cut) != weight or not parts_pairs(web, pairs, cut):
        return False
    return is_end(web, pairs, weight, [], [], tree)


def is_end(web, pairs, weight, cut, kept, thing):
    """Whether a thing is a tree by which no parting of the pairs with these ties cut and kept is lighter."""
    if is_tuple_of(thing, 1) and thing[0] == "dear":
        return weight_of(web, cut) >= weight
    if is_tuple_of(thing, 3) and thing[0] == "kept":
        return is_way_of(web, pairs, thing[1], thing[2]) and all([pair in kept for pair in ties_along(thing[2])])
    if is_tuple_of(thing, 4) and thing[0] == "way":
        number, way, trees = thing[1:]
        return is_way_of(web, pairs, number, way) and are_ends(web, pairs, weight, cut, kept, ties_along(way), trees)
    return False


def is_way_of(web, pairs, number, thing):
    """Whether things are the number of a pair and a way from its one place to its other."""
    if not is_number(number) or not 0 <= number < len(pairs) or not is_way(web, thing):
        return False
    return (thing[0], thing[-1]) == pairs[number]


def is_way(web, thing):
    """Whether a thing is a list of places, one at least, each tied to the next one, none twice."""
    if not is_list(thing) or not are_numbers(thing) or not 1 <= len(thing) == len(set(thing)):
        return False
    weights = tie_weights(web)
    return all([pair in weights for pair in ties_along(thing)])


def are_ends(web, pairs, weight, cut, kept, along, thing):
    """Whether a thing is a tuple with a tree for each tie along a way that isn't kept, where none is cut."""
    loose = [pair for pair in along if pair not in kept]
    if not loose or any([pair in cut for pair in loose]) or not is_tuple_of(thing, len(loose)):
        return False
    for at, tree in enumerate(thing):
        if not is_end(web, pairs, weight, cut + [loose[at]], kept + loose[:at], tree):
            return False
    return True
