"""All least partings of small webs, and the weight that comes next above theirs."""

from partedweb.errors import TooMany
from partedweb.partings import cut_by, given, parted_from, places_beside, posts_alone, weight_between
from partedweb.webs import beside_each, heads_of

MOST_TOLD = 200


def all_least(web, posts):
    """The rising list of all partings of the least weight."""
    rows = least_rows(web, posts)
    if len(rows) > MOST_TOLD:
        raise TooMany("there are too many least partings to be told")
    return sorted([cut_by(web, owners) for owners in rows])


def count_least(web, posts):
    """How many partings of the least weight there are."""
    return len(least_rows(web, posts))


def always_cut(web, posts):
    """The rising list of the ties that are in each least parting."""
    rows = least_rows(web, posts)
    return [(a, b) for a, b, weight in web[1] if all([owners[a] != owners[b] for owners in rows])]


def ever_cut(web, posts):
    """The rising list of the ties that are in some least parting."""
    rows = least_rows(web, posts)
    return [(a, b) for a, b, weight in web[1] if any([owners[a] != owners[b] for owners in rows])]


def second_least(web, posts):
    """The least weight above the least that a row of owners' cut has, None where there is none."""
    weights = least_weights(web, posts, 2)
    return weights[1] if len(weights) == 2 else None


def least_rows(web, posts):
    """A row of owners for each least parting."""
    beside = beside_each(web)
    least = least_weights(web, posts, 1)[0]
    heads = heads_of(web)
    held = [heads[post] for post in posts]
    rows = [first_row(web, posts)]
    for place in places_beside(web, posts):
        # Ties weigh 1 at least, so a least parting leaves nothing without a post but what hung together with none.
        # With that given to the first post alone, no two rows have the same cut.
        takers = posts if heads[place] in held else posts[:1]
        rows = [longer for row in rows for longer in rows_from(beside, takers, row, place) if longer[0] <= least]
    return [owners for weight, owners in rows]


def least_weights(web, posts, many):
    """The rising list of the so many least unlike weights of rows of owners, fewer where there are no more."""
    beside = beside_each(web)
    places = places_beside(web, posts)
    found = []
    waiting = [(first_row(web, posts), 0)]
    while waiting:
        row, at = waiting.pop()
        if len(found) == many and row[0] >= found[-1]:
            continue
        if at == len(places):
            found = sorted(set(found + [row[0]]))[:many]
        else:
            # The lightest is looked at first, so that what is too heavy is soon known.
            longer = sorted(rows_from(beside, posts, row, places[at]), reverse=True)
            waiting.extend([(one, at + 1) for one in longer])
    return found


def first_row(web, posts):
    """The tuple (weight, owners) of the row in which each post owns itself, and nothing else is given."""
    owners = posts_alone(web, posts)
    return (weight_between(web, owners), owners)


def rows_from(beside, takers, row, place):
    """The tuples (weight, owners) of a row when a place is given to each of some posts."""
    weight, owners = row
    return [(weight + parted_from(beside[place], owners, post), given(owners, place, post)) for post in takers]
