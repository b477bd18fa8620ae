"""Partings: cuts behind which no two posts hang together, and rows of owners."""

from partedweb.webs import heads_of, tie_weights, without


def is_parting(web, posts, cut):
    """Whether no two posts hang together without the ties of the cut."""
    heads = heads_of(without(web, cut))
    return len({heads[post] for post in posts}) == len(posts)


def cut_by(web, owners):
    """The cut of all ties whose ends have unlike owners."""
    return [(a, b) for a, b, weight in web[1] if owners[a] != owners[b]]


def owners_of(web, posts, cut):
    """For each place the post with which it hangs together without the parting, else the first post."""
    heads = heads_of(without(web, cut))
    owner_by_head = {heads[post]: post for post in posts}
    return tuple([owner_by_head.get(head, posts[0]) for head in heads])


def pruned(web, posts, cut):
    """The parting less each tie, the heaviest first, that can be put back without joining two posts."""
    weights = tie_weights(web)
    staying = list(cut)
    for pair in sorted(cut, key=lambda tie: (-weights[tie], tie)):
        fewer = [other for other in staying if other != pair]
        if is_parting(web, posts, fewer):
            staying = fewer
    return staying
