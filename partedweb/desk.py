"""A desk: rows of deeds that are done on a web, and of asks that are answered of it."""

from partedweb.alls import all_least, always_cut, ever_cut, least_weights
from partedweb.errors import BadRow, NoPlace, NoPost, TooMany
from partedweb.keeper import Keeper
from partedweb.partings import places_beside
from partedweb.sheet import numbers_behind, web_ahead
from partedweb.webs import pieces

MOST_BESIDE = 8
MOST_POSTS = 4


def weigh_tie(keeper, numbers):
    """Let a tie weigh so much."""
    return keeper.weigh(numbers[0], numbers[1], numbers[2])


def post_place(keeper, numbers):
    """Make a place a post."""
    return keeper.put_post(numbers[0])


def unpost_place(keeper, numbers):
    """Let a place be a post no more."""
    return keeper.take_post(numbers[0])


def undo_deed(keeper, numbers):
    """Take the last deed back."""
    return keeper.undo()


def tell_singles(keeper):
    """The posts' single values."""
    return " ".join([f"{post}:{paper[0]}" for post, paper in zip(keeper.posts_now(), keeper.singles_now())])


def tell_singly(keeper):
    """The parting by single cuts, its weight ahead."""
    weight, cut = keeper.parting_now()
    return f"{weight} : {cut_text(cut)}"


def tell_pieces(keeper):
    """The pieces of the web."""
    return " / ".join([" ".join([str(place) for place in piece]) for piece in pieces(keeper.web_now())])


def tell_least(keeper):
    """The least weight of a parting."""
    return str(least_weights(keeper.web_now(), keeper.posts_now(), 1)[0])


def tell_lists(keeper):
    """All least partings."""
    try:
        cuts = all_least(keeper.web_now(), keeper.posts_now())
    except TooMany:
        return "TooMany"
    return " ; ".join([cut_text(cut) for cut in cuts])


def tell_always(keeper):
    """The ties in each least parting."""
    return cut_text(always_cut(keeper.web_now(), keeper.posts_now()))


def tell_ever(keeper):
    """The ties in some least parting."""
    return cut_text(ever_cut(keeper.web_now(), keeper.posts_now()))


def cut_text(cut):
    """A cut as it is written."""
    return " ".join([f"{a}-{b}" for a, b in cut]) if cut else "-"


DEEDS = {"tie": weigh_tie, "post": post_place, "unpost": unpost_place, "undo": undo_deed}
NUMBERS_OF_DEEDS = {"tie": 3, "post": 1, "unpost": 1, "undo": 0}
ASKS = {"singles": tell_singles, "singly": tell_singly, "pieces": tell_pieces}
ASKS_OF_SMALL_WEBS = {"least": tell_least, "lists": tell_lists, "always": tell_always, "ever": tell_ever}


def desk_told(text):
    """The answers to the rows behind a web's text, row by row."""
    rows = text.split("\n")
    web, posts, used = web_ahead(rows)
    for at, row in enumerate(rows[used:], start=used):
        if not is_ask(row) and not is_deed(row):
            raise BadRow(at)
    keeper = Keeper(web, posts)
    answers = []
    for row in rows[used:]:
        answers.append(answer_to(row, keeper))
    return answers


def is_ask(row):
    """Whether a row is an ask."""
    return row in ASKS or row in ASKS_OF_SMALL_WEBS


def is_deed(row):
    """Whether a row is written like a deed."""
    word = row.split(" ")[0]
    numbers = numbers_behind(word, row)
    if word not in DEEDS or numbers is None or len(numbers) != NUMBERS_OF_DEEDS[word]:
        return False
    return word != "tie" or numbers[0] < numbers[1]


def answer_to(row, keeper):
    """The answer to an ask, or to a deed, which is done."""
    if row in ASKS:
        ask = ASKS[row]
        return ask(keeper)
    if row in ASKS_OF_SMALL_WEBS:
        ask = ASKS_OF_SMALL_WEBS[row]
        return "too great" if is_too_great(keeper) else ask(keeper)
    return answer_to_deed(row, keeper)


def answer_to_deed(row, keeper):
    """Do a deed, and tell how it went."""
    word = row.split(" ")[0]
    deed = DEEDS[word]
    try:
        told = deed(keeper, numbers_behind(word, row))
    except NoPlace:
        return "NoPlace"
    except NoPost:
        return "NoPost"
    return "nothing" if told is None else "done"


def is_too_great(keeper):
    """Whether the least partings of the web are too many to be gone through."""
    posts = keeper.posts_now()
    return len(posts) > MOST_POSTS or len(places_beside(keeper.web_now(), posts)) > MOST_BESIDE
