"""Flows from sources to sinks, the sides that show them greatest, and the checker of both."""

from partedweb.kinds import are_numbers, is_list, is_number, is_tuple_of, rises


def flow(web, sources, sinks):
    """A tuple (value, amounts, side): a greatest flow and the least side that weighs as much."""
    arcs = arcs_of(web)
    amounts = greatest_amounts(web, arcs, sources, sinks)
    side = sorted(trails_from(web, arcs, amounts, sources, 1))
    return (value_of(web, amounts, sources), amounts, side)


def wide_side(web, sources, sinks):
    """The greatest side that weighs no more than any other."""
    arcs = arcs_of(web)
    amounts = greatest_amounts(web, arcs, sources, sinks)
    beyond = trails_from(web, arcs, amounts, sinks, -1)
    return [place for place in range(web[0]) if place not in beyond]


def side_weight(web, side):
    """What the ties weigh together of which just one end is in the side."""
    return sum([weight for a, b, weight in web[1] if (a in side) != (b in side)])


def shows_flow(web, sources, sinks, told):
    """Whether told is a tuple (value, amounts, side) of a flow and a side that weighs its value."""
    if not is_tuple_of(told, 3):
        return False
    value, amounts, side = told
    if not is_number(value) or not are_amounts(web, amounts) or not is_side(web, sources, sinks, side):
        return False
    given = given_at(web, amounts)
    even = all([given[place] == 0 for place in range(web[0]) if place not in sources and place not in sinks])
    return even and value == value_of(web, amounts, sources) and value == side_weight(web, side)


def are_flows(web, ends, thing):
    """Whether a thing is a list with a flow for each of the tuples (sources, sinks), in order."""
    if not is_list(thing) or len(thing) != len(ends):
        return False
    return all([shows_flow(web, sources, sinks, paper) for (sources, sinks), paper in zip(ends, thing)])


def are_amounts(web, thing):
    """Whether a thing is a list with a number for each tie, at most its weight either way."""
    ties = web[1]
    if not is_list(thing) or len(thing) != len(ties) or not are_numbers(thing):
        return False
    return all([abs(amount) <= tie[2] for amount, tie in zip(thing, ties)])


def is_side(web, sources, sinks, thing):
    """Whether a thing is a rising list of places that has all sources and no sink."""
    if not is_list(thing) or not are_numbers(thing) or not rises(thing):
        return False
    inside = all([0 <= place < web[0] and place not in sinks for place in thing])
    return inside and all([place in thing for place in sources])


def given_at(web, amounts):
    """For each place what goes out of it more than what comes."""
    many, ties = web
    given = [0] * many
    for (a, b, weight), amount in zip(ties, amounts):
        given[a] += amount
        given[b] -= amount
    return given


def value_of(web, amounts, sources):
    """What goes out of the sources more than what comes."""
    given = given_at(web, amounts)
    return sum([given[source] for source in sources])


def arcs_of(web):
    """For each place a tuple (tie, far, sign) for each of its ties: its number, its far end, 1 from a to b, else -1."""
    many, ties = web
    arcs = [[] for place in range(many)]
    for tie, (a, b, weight) in enumerate(ties):
        arcs[a].append((tie, b, 1))
        arcs[b].append((tie, a, -1))
    return arcs


def greatest_amounts(web, arcs, sources, sinks):
    """The amounts of a flow beside which no value is greater."""
    amounts = [0] * len(web[1])
    send(web, arcs, amounts, sources, sinks, sum([weight for a, b, weight in web[1]]))
    return amounts


def send(web, arcs, amounts, sources, sinks, most):
    """Let more flow from sources to sinks: so much, or as much as there is a way for."""
    while most > 0:
        trails = trails_from(web, arcs, amounts, sources, 1)
        # The nearest sink: by shortest ways alone the number of rounds doesn't grow with the weights.
        ends = [place for place in trails if place in sinks]
        if not ends:
            break
        most -= push(web, amounts, way_to(trails, ends[0]), most)


def trails_from(web, arcs, amounts, starts, turn):
    """By which step (from, tie, sign) each place is first met, nearest places first, None for the starts.

    Steps go where more could flow along them; with turn -1, where more could flow back along them.
    """
    ties = web[1]
    trails = {start: None for start in starts}
    waiting = list(starts)
    met = 0
    while met < len(waiting):
        place = waiting[met]
        met += 1
        for tie, far, sign in arcs[place]:
            if far not in trails and ties[tie][2] - turn * sign * amounts[tie] > 0:
                trails[far] = (place, tie, sign)
                waiting.append(far)
    return trails


def way_to(trails, end):
    """The steps (tie, sign) by which the end is met."""
    way = []
    step = trails[end]
    while step is not None:
        place, tie, sign = step
        way.append((tie, sign))
        step = trails[place]
    return way


def push(web, amounts, way, most):
    """Let as much more flow along a way as there is room for, at most so much; tell how much it is."""
    more = min([most] + [web[1][tie][2] - sign * amounts[tie] for tie, sign in way])
    for tie, sign in way:
        amounts[tie] += sign * more
    return more
