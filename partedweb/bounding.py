"""Small webs parted for the least weight, by a tree of bounds."""

from partedweb.boundcheck import ends_by, near_weight
from partedweb.flows import flow
from partedweb.partings import cut_by, given, posts_alone
from partedweb.singles import by_singles
from partedweb.webs import beside_each


def least_parting(web, posts):
    """A tuple (weight, cut, tree): a lightest parting, and a tree of bounds by which none is lighter."""
    weight, cut, papers = by_singles(web, posts)
    best, tree = bounded(web, posts, posts_alone(web, posts), (weight, cut))
    return best + (tree,)


def bounded(web, posts, owners, best):
    """A tuple (best, tree): a lightest of the best (weight, cut) and the rows that have these owners, and its tree.

    The best may become lighter later on; what bounds a heavier one bounds it, too.
    """
    near = near_weight(web, posts, owners)
    if None not in owners and near < best[0]:
        best = (near, cut_by(web, owners))
    if near >= best[0]:
        return (best, ("near",))
    papers = [flow(web, sources, sinks) for sources, sinks in ends_by(posts, owners)]
    if sum([paper[0] for paper in papers]) >= 2 * best[0] - 1:
        return (best, ("floor", papers))
    place = nearest_place(web, owners)
    trees = []
    for post in posts:
        best, tree = bounded(web, posts, given(owners, place, post), best)
        trees.append(tree)
    return (best, ("place", place, tuple(trees)))


def nearest_place(web, owners):
    """The first place not given yet whose ties with given ones weigh most: giving it away tells the most."""
    free = [
        (-sum([weight for far, weight in ties if owners[far] is not None]), place)
        for place, ties in enumerate(beside_each(web)) if owners[place] is None
    ]
    return min(free)[1]
