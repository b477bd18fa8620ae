"""Single cuts, each parting one post from all others, and the parting that they make together."""

from partedweb.flows import flow, shows_flow
from partedweb.kinds import is_list, is_number, is_tuple_of
from partedweb.partings import is_parting, pruned
from partedweb.webs import is_cut, weight_of


def singles(web, posts):
    """What flow tells from each post to all others, post by post."""
    return [flow(web, [post], others_than(post, posts)) for post in posts]


def by_singles(web, posts):
    """A tuple (weight, cut, papers): a parting by all single cuts but a dearest one, and what singles tells."""
    papers = singles(web, posts)
    values = [paper[0] for paper in papers]
    dearest = values.index(max(values))
    sides = [side for at, (value, amounts, side) in enumerate(papers) if at != dearest]
    cut = pruned(web, posts, rim_of(web, sides))
    return (weight_of(web, cut), cut, papers)


def shows_by_singles(web, posts, told):
    """Whether told is a tuple (weight, cut, papers) of a parting whose weight the papers bound."""
    if not is_tuple_of(told, 3):
        return False
    weight, cut, papers = told
    if not is_number(weight) or not is_cut(web, cut) or not are_singles(web, posts, papers):
        return False
    if not is_parting(web, posts, cut) or weight_of(web, cut) != weight:
        return False
    many = len(posts)
    return many * weight <= (many - 1) * sum([paper[0] for paper in papers])


def are_singles(web, posts, thing):
    """Whether a thing is a list with a flow from each post to all others, post by post."""
    if not is_list(thing) or len(thing) != len(posts):
        return False
    return all([shows_flow(web, [post], others_than(post, posts), paper) for post, paper in zip(posts, thing)])


def others_than(post, posts):
    """All posts but this one."""
    return [other for other in posts if other != post]


def rim_of(web, sides):
    """The cut of all ties of which just one end is in one of the sides."""
    return [(a, b) for a, b, weight in web[1] if any([(a in side) != (b in side) for side in sides])]
