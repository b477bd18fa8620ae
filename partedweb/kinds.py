"""Of what kind a thing is: asked where anything at all may be handed in."""


def is_number(thing):
    """Whether a thing is a whole number; True and False are none."""
    return isinstance(thing, int) and not isinstance(thing, bool)


def are_numbers(things):
    """Whether all these things are whole numbers."""
    return all([is_number(thing) for thing in things])


def is_list(thing):
    """Whether a thing may stand where a list is named: a tuple may as well."""
    return isinstance(thing, (list, tuple))


def is_tuple_of(thing, many):
    """Whether a thing is a tuple of so many parts."""
    return isinstance(thing, tuple) and len(thing) == many


def rises(things):
    """Whether each of these things, numbers or tuples of such, is less than the next one."""
    return all([one < other for one, other in zip(things, things[1:])])
