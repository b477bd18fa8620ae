"""Pulls along ties, the floors that they put under what shares cost, and the checker of least shares."""

from partedweb.flows import given_at
from partedweb.kinds import fraction, is_fraction, is_list, is_tuple_of, over_one
from partedweb.partings import places_beside
from partedweb.shares import cost_of, is_shares


def floor_by(web, posts, pulls):
    """What each pull gives at its post, and for each other place the least that a pull gives there, together."""
    below, rows = over_one(pulls)
    given = [given_at(web, row) for row in rows]
    at_posts = sum([row[post] for post, row in zip(posts, given)])
    elsewhere = sum([min([row[place] for row in given]) for place in places_beside(web, posts)])
    return fraction(at_posts + elsewhere, below)


def shows_least_shares(web, posts, told):
    """Whether told is a tuple (cost, shares, pulls) of shares of this cost and pulls that let none cost less."""
    if not is_tuple_of(told, 3):
        return False
    cost, shares, pulls = told
    if not is_fraction(cost) or not is_shares(web, posts, shares) or not are_pulls(web, posts, pulls):
        return False
    return cost == cost_of(web, shares) and cost == floor_by(web, posts, pulls)


def are_pulls(web, posts, thing):
    """Whether a thing is a list of a pull for each post."""
    return is_list(thing) and len(thing) == len(posts) and all([is_pull(web, row) for row in thing])


def is_pull(web, thing):
    """Whether a thing is a list with a fraction for each tie, at most half its weight either way."""
    ties = web[1]
    if not is_list(thing) or len(thing) != len(ties) or not all([is_fraction(amount) for amount in thing]):
        return False
    return all([2 * abs(top) <= tie[2] * below for (top, below), tie in zip(thing, ties)])
