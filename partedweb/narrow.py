"""Narrow webs parted for the least weight, along an order in which few places are open at once."""

from partedweb.partings import given, parted_from
from partedweb.webs import beside_each


def width_of(web, order):
    """The greatest number of places that are open behind a place of the order."""
    return max([len(places) for places in open_behind(web, order)])


def open_behind(web, order):
    """For each place of the order those up to it that have a tie with one that comes later."""
    comes = {place: at for at, place in enumerate(order)}
    last = dict(comes)
    for a, b, weight in web[1]:
        last[a] = max(last[a], comes[b])
        last[b] = max(last[b], comes[a])
    return [[place for place in order[:at + 1] if last[place] > at] for at in range(len(order))]


def least_narrow(web, posts, order):
    """A tuple (weight, owners, many): the least weight of a row of owners, the first such row, how many there are."""
    beside = beside_each(web)
    # Rows that are alike at the open places go on alike, so one of them stands for all.
    found = {(): (0, (None,) * web[0], 1)}
    for place, places in zip(order, open_behind(web, order)):
        choices = [place] if place in posts else posts
        longer = {}
        for weight, owners, many in found.values():
            for post in choices:
                row = given(owners, place, post)
                one = (weight + parted_from(beside[place], owners, post), row, many)
                key = tuple([row[other] for other in places])
                longer[key] = joined(one, longer[key]) if key in longer else one
        found = longer
    return found[()]


def joined(one, other):
    """What stands for the rows of both: the lighter; where they weigh the same, the first row, and as many as both."""
    if one[0] != other[0]:
        return min(one, other)
    return (one[0], min(one[1], other[1]), one[2] + other[2])


def flat(wide, high, weights):
    """The web of so many places in so many rows, each tied to the next one in its row and in its column."""
    many = wide * high
    pairs = []
    for place in range(many):
        if place % wide < wide - 1:
            pairs.append((place, place + 1))
        if place + wide < many:
            pairs.append((place, place + wide))
    return (many, tuple([(a, b, weight) for (a, b), weight in zip(pairs, weights)]))


def row_order(wide, high):
    """The order of a flat web's places as they are numbered."""
    return list(range(wide * high))
