"""Trees parted for the least weight, place by place from what hangs on last, and the checker of the table."""

from partedweb.kinds import is_list, is_number, is_tuple_of
from partedweb.partings import cut_by, is_row_of_owners
from partedweb.webs import beside_each, pieces, weight_of


def is_tree(web):
    """Whether all places hang together by one tie less than there are places."""
    many, ties = web
    return len(ties) == many - 1 and len(pieces(web)) == 1


def least_on_tree(web, posts):
    """A tuple (weight, owners, table): the least weight, a row that weighs so, each place's least weights by owners."""
    behind = behind_each(web)
    table = [[] for place in range(web[0])]
    for place in reversed(list(behind)):
        table[place] = weights_behind(posts, place, behind[place], table)
    weight, first = least_of(posts, table[0], posts[0], 0)
    owners = [first for place in range(web[0])]
    for place, nexts in behind.items():
        for far, heavy in nexts:
            owners[far] = least_of(posts, table[far], owners[place], heavy)[1]
    return (weight, tuple(owners), table)


def behind_each(web):
    """For each place of a tree the tuples (far, weight) of its ties with the places next behind it.

    A dict in which each place comes ahead of those behind it.
    """
    beside = beside_each(web)
    behind = {}
    waiting = [0]
    while waiting:
        place = waiting.pop()
        behind[place] = [(far, weight) for far, weight in beside[place] if far not in behind]
        waiting.extend([far for far, weight in behind[place]])
    return behind


def weights_behind(posts, place, nexts, table):
    """A place's row of the table, by the rows of the places next behind it."""
    row = []
    for post in posts:
        weights = [least_of(posts, table[far], post, heavy)[0] for far, heavy in nexts]
        row.append(sum(weights) if is_open_to(posts, place, post) else None)
    return row


def least_of(posts, row, owner, heavy):
    """The least weight of a place's row and its post, where the tie to what owner owns weighs so much."""
    return min([
        (weight if post == owner else weight + heavy, post) for post, weight in zip(posts, row) if weight is not None
    ])


def is_open_to(posts, place, post):
    """Whether a post may own a place: one that is no other post."""
    return place == post or place not in posts


def shows_on_tree(web, posts, told):
    """Whether told is a tuple (weight, owners, table) as least_on_tree tells, of any row that weighs so."""
    if not is_tuple_of(told, 3):
        return False
    weight, owners, table = told
    if not is_number(weight) or not is_row_of_owners(web, posts, owners) or not is_table(web, posts, table):
        return False
    for place, nexts in behind_each(web).items():
        if list(table[place]) != weights_behind(posts, place, nexts, table):
            return False
    least = min([number for number in table[0] if number is not None])
    return weight == least and weight == weight_of(web, cut_by(web, owners))


def is_table(web, posts, thing):
    """Whether a thing is a list with a list for each place: a number for each post, None where it is another post."""
    if not is_list(thing) or len(thing) != web[0]:
        return False
    return all([is_row_of_table(posts, place, row) for place, row in enumerate(thing)])


def is_row_of_table(posts, place, thing):
    """Whether a thing is a list as the table has it for a place."""
    if not is_list(thing) or len(thing) != len(posts):
        return False
    return all([
        is_number(number) if is_open_to(posts, place, post) else number is None for post, number in zip(posts, thing)
    ])
