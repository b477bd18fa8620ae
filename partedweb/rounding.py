"""Shares rounded at thresholds to rows of owners, and the checker of what such a row is said to weigh."""

from partedweb.kinds import are_numbers, is_fraction, is_less, is_list, is_number, is_tuple_of, over_one
from partedweb.partings import cut_by
from partedweb.shares import cost_at, cost_of
from partedweb.webs import is_cut, weight_of


def owners_by(posts, shares, order, threshold):
    """For each place the first post in this order, but the last one, of which it has the threshold, else the last."""
    return tuple([posts[taker(row, order, threshold)] for row in shares])


def taker(row, order, threshold):
    """The number of the post to which a place with these shares goes."""
    for at in order[:-1]:
        if not is_less(row[at], threshold):
            return at
    return order[-1]


def thresholds(shares):
    """The rising list of all unlike shares above 0."""
    unlike = {share: True for row in shares for share in row if share[0] > 0}
    below, rows = over_one([list(unlike)])
    return [share for top, share in sorted(zip(rows[0], unlike))]


def rounded(web, posts, shares):
    """A tuple (weight, cut, order, threshold): the lightest cut by two orders and all thresholds."""
    best = None
    for order in orders_for(web, posts, shares):
        for threshold in thresholds(shares):
            cut = cut_by(web, owners_by(posts, shares, order, threshold))
            weight = weight_of(web, cut)
            if best is None or weight < best[0]:
                best = (weight, cut, order, threshold)
    return best


def orders_for(web, posts, shares):
    """All posts' numbers but the dearest one's, rising, and falling, with the dearest one's behind them."""
    below, rows = over_one([[cost_at(web, shares, at) for at in range(len(posts))]])
    dearest = rows[0].index(max(rows[0]))
    others = [at for at in range(len(posts)) if at != dearest]
    return [others + [dearest], others[::-1] + [dearest]]


def shows_rounded(web, posts, shares, told):
    """Whether told is a tuple (weight, cut, order, threshold) of a cut whose weight the shares' cost bounds."""
    if not is_tuple_of(told, 4):
        return False
    weight, cut, order, threshold = told
    if not is_number(weight) or not is_cut(web, cut):
        return False
    if not is_order_of(len(posts), order) or not is_threshold(threshold):
        return False
    if list(cut) != cut_by(web, owners_by(posts, shares, order, threshold)) or weight != weight_of(web, cut):
        return False
    many = len(posts)
    top, below = cost_of(web, shares)
    return 2 * many * weight * below <= (3 * many - 2) * top


def is_order_of(many, thing):
    """Whether a thing is a list of so many numbers from 0 on, each once."""
    return is_list(thing) and are_numbers(thing) and sorted(thing) == list(range(many))


def is_threshold(thing):
    """Whether a thing is a fraction above 0, at most 1."""
    return is_fraction(thing) and 0 < thing[0] <= thing[1]
