"""Single cuts, each parting one post from all others, and the parting that they make together."""

from partedweb.flows import are_flows, flow
from partedweb.kinds import is_tuple_of
from partedweb.partings import is_parting_of_weight, pruned
from partedweb.webs import weight_of


def singles(web, posts):
    """What flow tells from each post to all others, post by post."""
    return [flow(web, sources, sinks) for sources, sinks in single_ends(posts)]


def by_singles(web, posts):
    """A tuple (weight, cut, papers): a parting by all single cuts but a dearest one, and what singles tells."""
    papers = singles(web, posts)
    return parting_by(web, posts, papers) + (papers,)


def parting_by(web, posts, papers):
    """A tuple (weight, cut): the parting by all single cuts but the first dearest one."""
    values = [paper[0] for paper in papers]
    dearest = values.index(max(values))
    sides = [side for at, (value, amounts, side) in enumerate(papers) if at != dearest]
    cut = pruned(web, posts, rim_of(web, sides))
    return (weight_of(web, cut), cut)


def shows_by_singles(web, posts, told):
    """Whether told is a tuple (weight, cut, papers) of a parting whose weight the papers bound."""
    if not is_tuple_of(told, 3):
        return False
    weight, cut, papers = told
    if not is_parting_of_weight(web, posts, cut, weight) or not are_flows(web, single_ends(posts), papers):
        return False
    many = len(posts)
    return many * weight <= (many - 1) * sum([paper[0] for paper in papers])


def single_ends(posts):
    """For each post the sources and sinks of its single cut: the post, and all others."""
    return [([post], [other for other in posts if other != post]) for post in posts]


def rim_of(web, sides):
    """The cut of all ties of which just one end is in one of the sides."""
    return [(a, b) for a, b, weight in web[1] if any([(a in side) != (b in side) for side in sides])]
