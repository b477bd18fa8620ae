"""Shares that places have of posts, and what they cost."""

from partedweb.kinds import fraction, is_fraction, is_list, over_one

ALL = (1, 1)
NOTHING = (0, 1)


def is_shares(web, posts, thing):
    """Whether a thing is a list of shares of all posts for each place."""
    if not is_list(thing) or len(thing) != web[0]:
        return False
    return all([are_shares_of(place, posts, row) for place, row in enumerate(thing)])


def are_shares_of(place, posts, thing):
    """Whether a thing is a list with a fraction from 0 for each post, 1 together, a post's own being 1."""
    if not is_list(thing) or len(thing) != len(posts) or not all([is_fraction(share) for share in thing]):
        return False
    below, rows = over_one([thing])
    if min(rows[0]) < 0 or sum(rows[0]) != below:
        return False
    return all([share == ALL for post, share in zip(posts, thing) if post == place])


def cost_of(web, shares):
    """What all ties cost, each its weight times half of all differences between its ends' shares."""
    below, rows = over_one(shares)
    return fraction(sum([weight * apart(rows[a], rows[b]) for a, b, weight in web[1]]), 2 * below)


def apart(one, other):
    """All differences between two lists of numbers together."""
    return sum([abs(here - there) for here, there in zip(one, other)])


def cost_at(web, shares, l):
    """The sum of each tie's weight times the difference of its ends' shares of the l-th post."""
    below, rows = over_one(shares)
    return fraction(sum([weight * abs(rows[a][l] - rows[b][l]) for a, b, weight in web[1]]), below)


def shares_by(posts, owners):
    """The shares of 1 for each place's owner, and of 0 else."""
    return [[ALL if post == owner else NOTHING for post in posts] for owner in owners]


def even_shares(web, posts):
    """The shares by which each place that is no post has as much of each."""
    even = (1, len(posts))
    shares = [[even for post in posts] for place in range(web[0])]
    for post, row in zip(posts, shares_by(posts, posts)):
        shares[post] = row
    return shares


def mixed(one, other, part):
    """The shares of one part times and of other for the rest."""
    return [[blend(here, there, part) for here, there in zip(row, beside)] for row, beside in zip(one, other)]


def blend(one, other, part):
    """One fraction part times and another one for the rest."""
    top = part[0] * one[0] * other[1] + (part[1] - part[0]) * other[0] * one[1]
    return fraction(top, part[1] * one[1] * other[1])
