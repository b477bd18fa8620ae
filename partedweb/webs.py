"""Webs, cuts of their ties, and the pieces that hang together."""

from partedweb.kinds import are_numbers, is_list, is_number, is_tuple_of, rises


def is_web(thing):
    """Whether a thing is a web."""
    if not is_tuple_of(thing, 2):
        return False
    many, ties = thing
    if not is_number(many) or many < 1 or not isinstance(ties, tuple):
        return False
    return all([is_tie(tie, many) for tie in ties]) and rises([tie[:2] for tie in ties])


def is_tie(thing, many):
    """Whether a thing is a tie between two of so many places."""
    if not is_tuple_of(thing, 3) or not are_numbers(thing):
        return False
    a, b, weight = thing
    return 0 <= a < b < many and weight >= 1


def is_cut(web, thing):
    """Whether a thing is a rising list of unlike pairs of the web's ties."""
    # True equals 1, so the kinds are asked ahead of the look into the web's pairs.
    if not is_list(thing) or not all([is_tuple_of(pair, 2) and are_numbers(pair) for pair in thing]):
        return False
    weights = tie_weights(web)
    return all([pair in weights for pair in thing]) and rises(thing)


def tie_weights(web):
    """What each tie weighs, by its pair."""
    return {(a, b): weight for a, b, weight in web[1]}


def weight_of(web, cut):
    """What the ties of a cut weigh together."""
    weights = tie_weights(web)
    return sum([weights[pair] for pair in cut])


def without(web, cut):
    """The web without the ties of a cut."""
    many, ties = web
    gone = {pair: True for pair in cut}
    return (many, tuple([tie for tie in ties if tie[:2] not in gone]))


def reweighed(web, pair, weight):
    """The web with a tie of this pair that weighs so much, with none where that is 0."""
    many, ties = web
    others = [tie for tie in ties if tie[:2] != pair]
    return (many, tuple(sorted(others + [pair + (weight,)] if weight > 0 else others)))


def beside_each(web):
    """For each place the tuples (far, weight) of its ties: the other end, and what it weighs."""
    many, ties = web
    beside = [[] for place in range(many)]
    for a, b, weight in ties:
        beside[a].append((b, weight))
        beside[b].append((a, weight))
    return beside


def heads_of(web):
    """For each place the first one of those with which it hangs together."""
    beside = beside_each(web)
    heads = [None] * web[0]
    for place in range(web[0]):
        if heads[place] is None:
            spread(beside, heads, place)
    return heads


def spread(beside, heads, head):
    """Give this head to all places that hang together with it."""
    heads[head] = head
    waiting = [head]
    while waiting:
        place = waiting.pop()
        for far, weight in beside[place]:
            if heads[far] is None:
                heads[far] = head
                waiting.append(far)


def pieces(web):
    """The rising lists of places that hang together, by their first places."""
    rows = {}
    for place, head in enumerate(heads_of(web)):
        rows.setdefault(head, []).append(place)
    return list(rows.values())


def ties_along(way):
    """The pairs of the ties by which a way goes, as they come."""
    return [(min(one, other), max(one, other)) for one, other in zip(way, way[1:])]


def merged(web, names):
    """The web in which all places of one number are one place."""
    weights = {}
    for a, b, weight in web[1]:
        pair = (min(names[a], names[b]), max(names[a], names[b]))
        if pair[0] != pair[1]:
            weights[pair] = weights.get(pair, 0) + weight
    return (max(names) + 1, tuple([(a, b, weights[(a, b)]) for a, b in sorted(weights)]))
