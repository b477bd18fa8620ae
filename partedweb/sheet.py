"""Webs and their posts as texts."""

from partedweb.errors import BadRow
from partedweb.kinds import rises
from partedweb.webs import is_tie

FIGURES = "0123456789"


def web_text(web, posts):
    """The text of a web and its posts."""
    many, ties = web
    rows = [f"web {many}"] + [f"tie {a} {b} {weight}" for a, b, weight in ties]
    return "\n".join(rows + ["posts " + " ".join([str(post) for post in posts])])


def web_from(text):
    """The tuple (web, posts) that a text writes."""
    rows = text.split("\n")
    web, posts, used = web_ahead(rows)
    if used < len(rows):
        raise BadRow(used)
    return (web, posts)


def web_ahead(rows):
    """A tuple (web, posts, used): the web and the posts that the first rows write, and how many rows these are."""
    first = numbers_behind("web", rows[0])
    if first is None or len(first) != 1 or first[0] < 1:
        raise BadRow(0)
    many = first[0]
    ties = []
    for at, row in enumerate(rows[1:], start=1):
        posts = numbers_behind("posts", row)
        if posts is not None and are_posts(many, posts):
            return ((many, tuple(ties)), posts, at + 1)
        tie = tuple(numbers_behind("tie", row) or [])
        if not is_tie(tie, many) or (ties and tie[:2] <= ties[-1][:2]):
            raise BadRow(at)
        ties.append(tie)
    raise BadRow(len(rows))


def are_posts(many, numbers):
    """Whether numbers from 0 on are two or more rising places of so many."""
    return len(numbers) >= 2 and rises(numbers) and numbers[-1] < many


def numbers_behind(word, row):
    """The numbers behind the first word of a row, None where it is another one, or they aren't written so."""
    words = row.split(" ")
    if words[0] != word or not all([is_figures(figures) for figures in words[1:]]):
        return None
    return [int(figures) for figures in words[1:]]


def is_figures(word):
    """Whether a word is figures, and no nought ahead but 0 itself."""
    return word == "0" or (word[:1] not in ("", "0") and all([sign in FIGURES for sign in word]))
