"""Partings: cuts behind which no two posts hang together, and rows of owners."""

from partedweb.kinds import are_numbers, is_number
from partedweb.webs import heads_of, is_cut, tie_weights, weight_of, without


def is_parting(web, posts, cut):
    """Whether no two posts hang together without the ties of the cut."""
    heads = heads_of(without(web, cut))
    return len({heads[post] for post in posts}) == len(posts)


def is_parting_of_weight(web, posts, cut, weight):
    """Whether these two things are a parting and what it weighs."""
    if not is_number(weight) or not is_cut(web, cut):
        return False
    return is_parting(web, posts, cut) and weight_of(web, cut) == weight


def is_row_of_owners(web, posts, thing):
    """Whether a thing is a tuple with a post for each place, for each post itself."""
    if not isinstance(thing, tuple) or len(thing) != web[0] or not are_numbers(thing):
        return False
    return all([owner in posts for owner in thing]) and all([thing[post] == post for post in posts])


def cut_by(web, owners):
    """The cut of all ties whose ends have unlike owners."""
    return [(a, b) for a, b, weight in web[1] if owners[a] != owners[b]]


def owners_of(web, posts, cut):
    """For each place the post with which it hangs together without the parting, else the first post."""
    heads = heads_of(without(web, cut))
    owner_by_head = {heads[post]: post for post in posts}
    return tuple([owner_by_head.get(head, posts[0]) for head in heads])


def pruned(web, posts, cut):
    """The parting less each tie, the heaviest first, that can be put back without joining two posts."""
    weights = tie_weights(web)
    staying = list(cut)
    for pair in sorted(cut, key=lambda tie: (-weights[tie], tie)):
        fewer = [other for other in staying if other != pair]
        if is_parting(web, posts, fewer):
            staying = fewer
    return staying


def places_beside(web, posts):
    """All places that are no posts."""
    return [place for place in range(web[0]) if place not in posts]


def posts_alone(web, posts):
    """The row of owners so far in which each post owns itself, and None what isn't given yet."""
    return tuple([place if place in posts else None for place in range(web[0])])


def given(owners, place, post):
    """The row of owners so far with a place given to a post."""
    return owners[:place] + (post,) + owners[place + 1:]


def weight_between(web, owners):
    """What the ties between places given to unlike posts weigh together."""
    return sum([
        weight for a, b, weight in web[1] if None not in (owners[a], owners[b]) and owners[a] != owners[b]
    ])


def parted_from(ties, owners, post):
    """What those of a place's ties (far, weight) weigh that part it from other posts' places, if this post owns it."""
    return sum([weight for far, weight in ties if owners[far] is not None and owners[far] != post])
