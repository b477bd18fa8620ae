"""Webs made less: what may as well be one place with a post becomes the post."""

from partedweb.flows import wide_side
from partedweb.webs import merged


def shrunk(web, posts):
    """A tuple (less, names): the web with each post's wide side as one place, and each place's number in it."""
    names = tuple(range(web[0]))
    for post in posts:
        names = drawn_in(web, posts, post, names)
    return (merged(web, names), names)


def drawn_in(web, posts, post, names):
    """The names once the wide side of the post, in the web by the names so far, is the post."""
    others = [names[other] for other in posts if other != post]
    side = wide_side(merged(web, names), [names[post]], others)
    return numbered([names[post] if name in side else name for name in names])


def numbered(names):
    """Unlike numbers for unlike names, from 0, as the names first come."""
    numbers = {}
    for name in names:
        numbers.setdefault(name, len(numbers))
    return tuple([numbers[name] for name in names])
