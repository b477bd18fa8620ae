"""The checker of a tree of bounds, by which no parting is lighter than the told one."""

from partedweb.flows import are_flows
from partedweb.kinds import is_number, is_tuple_of
from partedweb.partings import given, is_parting_of_weight, parted_from, posts_alone, weight_between
from partedweb.webs import beside_each


def shows_least_parting(web, posts, told):
    """Whether told is a tuple (weight, cut, tree) of a parting of this weight and a tree of bounds for it."""
    if not is_tuple_of(told, 3):
        return False
    weight, cut, tree = told
    if not is_parting_of_weight(web, posts, cut, weight):
        return False
    return is_bound(web, posts, weight, posts_alone(web, posts), tree)


def is_bound(web, posts, weight, owners, thing):
    """Whether a thing is a tree by which no row that has these owners is lighter than the weight."""
    if is_tuple_of(thing, 2) and thing[0] == "floor":
        return is_floor(web, posts, weight, owners, thing[1])
    if is_tuple_of(thing, 1) and thing[0] == "near":
        return near_weight(web, posts, owners) >= weight
    if is_tuple_of(thing, 3) and thing[0] == "place":
        return is_free(owners, thing[1]) and are_bounds(web, posts, weight, owners, thing[1], thing[2])
    return False


def is_floor(web, posts, weight, owners, papers):
    """Whether things are flows that part each post's places from the others', of values great enough."""
    if not are_flows(web, ends_by(posts, owners), papers):
        return False
    # Each tie that is cut is in at most two of the flows' sides, and weights are whole numbers.
    return sum([paper[0] for paper in papers]) >= 2 * weight - 1


def ends_by(posts, owners):
    """For each post a tuple of the places given to it, and of those given to others."""
    taken = [(place, owner) for place, owner in enumerate(owners) if owner is not None]
    return [
        ([place for place, owner in taken if owner == post], [place for place, owner in taken if owner != post])
        for post in posts
    ]


def near_weight(web, posts, owners):
    """What each row that has these owners weighs at least, by the ties of the given places alone."""
    beside = beside_each(web)
    weights = [
        min([parted_from(beside[place], owners, post) for post in posts])
        for place in range(web[0]) if owners[place] is None
    ]
    return weight_between(web, owners) + sum(weights)


def is_free(owners, thing):
    """Whether a thing is a place that isn't given."""
    return is_number(thing) and 0 <= thing < len(owners) and owners[thing] is None


def are_bounds(web, posts, weight, owners, place, thing):
    """Whether a thing is a tuple with a tree for each post, in order, at which the place is given to it."""
    if not is_tuple_of(thing, len(posts)):
        return False
    for post, tree in zip(posts, thing):
        if not is_bound(web, posts, weight, given(owners, place, post), tree):
            return False
    return True
