"""Of what kind a thing is, asked where anything at all may be handed in, and how fractions are reckoned with."""


def is_number(thing):
    """Whether a thing is a whole number; True and False are none."""
    return isinstance(thing, int) and not isinstance(thing, bool)


def are_numbers(things):
    """Whether all these things are whole numbers."""
    return all([is_number(thing) for thing in things])


def is_list(thing):
    """Whether a thing may stand where a list is named: a tuple may as well."""
    return isinstance(thing, (list, tuple))


def is_tuple_of(thing, many):
    """Whether a thing is a tuple of so many parts."""
    return isinstance(thing, tuple) and len(thing) == many


def rises(things):
    """Whether each of these things, numbers or tuples of such, is less than the next one."""
    return all([one < other for one, other in zip(things, things[1:])])


def is_fraction(thing):
    """Whether a thing is a tuple (top, below) of numbers without a common divisor above 1, below 1 or more."""
    if not is_tuple_of(thing, 2) or not are_numbers(thing):
        return False
    top, below = thing
    return below >= 1 and common_divisor(top, below) == 1


def common_divisor(one, other):
    """The greatest divisor that two numbers have in common."""
    while other != 0:
        one, other = other, one % other
    return abs(one)


def fraction(top, below):
    """A number by another one that is 1 or more, as a fraction."""
    shared = common_divisor(top, below)
    return (top // shared, below // shared)


def is_less(one, other):
    """Whether a fraction is less than another one."""
    return one[0] * other[1] < other[0] * one[1]


def over_one(rows):
    """A tuple (below, rows): lists of fractions as lists of their tops over one and the same below."""
    below = 1
    for row in rows:
        for top, under in row:
            below = below // common_divisor(below, under) * under
    return (below, [[top * (below // under) for top, under in row] for row in rows])
