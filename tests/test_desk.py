"""[21], with [1], [2] and [3] as far as they speak of it: a desk's deeds and asks, and the refusal BadRow."""

import time
import unittest

from partedweb.desk import desk_told
from partedweb.errors import BadRow
from partedweb.sheet import web_text
from partedweb.singles import by_singles, singles
from partedweb.webs import weight_of
from tests.helpers import Dice, all_cuts, asked_fairly, great_web, least_weight, parts, rows_by_weight, small_webs, together
from tests.test_alls import FOUR, MORE, MOST, TWO_HUNDRED

RING = (4, ((0, 1, 5), (0, 3, 2), (1, 2, 7), (2, 3, 1)))
RING_ROWS = web_text(RING, [0, 2]).split("\n")
ASKS = ["singles", "singly", "least", "lists", "always", "ever", "pieces"]


def asked(web, posts, *rows):
    return desk_told("\n".join([web_text(web, posts)] + list(rows)))


def cut_by_words(cut):
    return " ".join(f"{a}-{b}" for a, b in cut) or "-"


class DeskByWords:
    """What a desk tells, each answer found anew from all rows of owners and all that hangs together."""

    def __init__(self, web, posts):
        self.web, self.posts, self.past = web, list(posts), []

    def answer(self, row):
        word, *figures = row.split(" ")
        numbers = [int(number) for number in figures]
        return getattr(self, word)(*numbers)

    def do(self, web, posts):
        self.past.append((self.web, self.posts))
        self.web, self.posts = web, posts
        return "done"

    def tie(self, a, b, weight):
        if max(a, b) >= self.web[0]:
            return "NoPlace"
        ties = {(one, other): heavy for one, other, heavy in self.web[1]}
        ties[a, b] = weight
        later = tuple(sorted(pair + (ties[pair],) for pair in ties if ties[pair]))
        return self.do((self.web[0], later), self.posts)

    def post(self, place):
        if place >= self.web[0]:
            return "NoPlace"
        return "NoPost" if place in self.posts else self.do(self.web, sorted(self.posts + [place]))

    def unpost(self, place):
        if place >= self.web[0]:
            return "NoPlace"
        if place not in self.posts or len(self.posts) == 2:
            return "NoPost"
        return self.do(self.web, [post for post in self.posts if post != place])

    def undo(self):
        if not self.past:
            return "nothing"
        self.web, self.posts = self.past.pop()
        return "done"

    def singles(self):
        values = [paper[0] for paper in singles(self.web, self.posts)]
        return " ".join(f"{post}:{value}" for post, value in zip(self.posts, values))

    def singly(self):
        weight, cut, _papers = by_singles(self.web, self.posts)
        return f"{weight} : {cut_by_words(cut)}"

    def least_cuts(self):
        rows = rows_by_weight(self.web, self.posts)
        cuts = set()
        for owners in rows[min(rows)]:
            cuts.add(tuple((a, b) for a, b, _weight in self.web[1] if owners[a] != owners[b]))
        return sorted(cuts)

    def small(self, answer):
        great = len(self.posts) > 4 or self.web[0] - len(self.posts) > 8
        return "too great" if great else answer()

    def least(self):
        return self.small(lambda: str(least_weight(self.web, self.posts)))

    def lists(self):
        return self.small(lambda: self.written_lists(self.least_cuts()))

    def written_lists(self, cuts):
        return "TooMany" if len(cuts) > 200 else " ; ".join(cut_by_words(cut) for cut in cuts)

    def always(self):
        return self.small(lambda: cut_by_words(sorted(set.intersection(*map(set, self.least_cuts())))))

    def ever(self):
        return self.small(lambda: cut_by_words(sorted({pair for cut in self.least_cuts() for pair in cut})))

    def pieces(self):
        found = sorted({tuple(sorted(places)) for places in together(self.web, [])})
        return " / ".join(" ".join(map(str, places)) for places in found)


def some_row(dice, many):
    """A row of a desk, its places sometimes one beyond the web."""
    word = ["tie", "tie", "tie", "post", "unpost", "undo"] + ASKS
    word = word[dice.below(len(word))]
    if word == "tie":
        a, b = sorted(dice.some(range(many + 1 - (dice.below(5) > 0)), 2))
        return f"tie {a} {b} {dice.below(5)}"
    return f"{word} {dice.below(many + 1)}" if word in ("post", "unpost") else word


class Asks(unittest.TestCase):
    def test_ordinary(self):
        self.assertEqual(asked(RING, [0, 2], *ASKS), [
            "0:6 2:6", "6 : 0-1 2-3", "6", "0-1 2-3", "0-1 2-3", "0-1 2-3", "0 1 2 3",
        ])
        self.assertEqual(asked((4, ((0, 1, 1), (0, 3, 1), (1, 2, 1), (2, 3, 1))), [0, 1, 2], *ASKS), [
            "0:2 1:2 2:2", "3 : 0-1 1-2 2-3", "3", "0-1 0-3 1-2 ; 0-1 1-2 2-3", "0-1 1-2", "0-1 0-3 1-2 2-3", "0 1 2 3",
        ])

    def test_nothing_is_asked(self):
        self.assertEqual(desk_told(web_text(RING, [0, 2])), [])

    def test_empty_answers(self):
        self.assertEqual(asked((3, ()), [0, 2], *ASKS), ["0:0 2:0", "0 : -", "0", "-", "-", "-", "0 / 1 / 2"])
        chain = (3, ((0, 1, 2), (1, 2, 2)))
        self.assertEqual(asked(chain, [0, 2], "lists", "always", "ever"), ["0-1 ; 1-2", "-", "0-1 1-2"])

    def test_pieces(self):
        web = (12, ((0, 11, 1), (2, 5, 1), (3, 10, 1), (5, 7, 1)))
        self.assertEqual(asked(web, [0, 1], "pieces"), ["0 11 / 1 / 2 5 7 / 3 10 / 4 / 6 / 8 / 9"])

    def test_kinds(self):
        told = asked(RING, [0, 2], "tie 0 1 3", *ASKS)
        self.assertEqual([told.__class__] + [answer.__class__ for answer in told], [list] + [str] * 8)

    def test_too_great(self):
        small = ["least", "lists", "always", "ever"]
        self.assertEqual(asked((13, ((0, 1, 1),)), [0, 1, 2, 3], *ASKS)[2:6], ["too great"] * 4)
        self.assertEqual(asked((12, ((0, 1, 1),)), [0, 1, 2, 3], *small), ["1", "0-1", "0-1", "0-1"])
        self.assertEqual(asked((11, ((0, 1, 1),)), [0, 1], *small), ["too great"] * 4)
        self.assertEqual(asked((10, ((0, 1, 1),)), [0, 1], *small), ["1", "0-1", "0-1", "0-1"])
        self.assertEqual(asked((5, ((0, 1, 1),)), [0, 1, 2, 3, 4], *small), ["too great"] * 4)
        self.assertEqual(asked((13, ()), [0, 1, 2, 3], "singles", "singly", "pieces"), [
            "0:0 1:0 2:0 3:0", "0 : -", " / ".join(str(place) for place in range(13)),
        ])

    def test_too_great_by_deeds(self):
        self.assertEqual(asked((11, ((0, 1, 1),)), [0, 1], "least", "post 2", "least", "post 3", "post 4", "least", "undo", "least"), [
            "too great", "done", "1", "done", "done", "too great", "done", "1",
        ])

    def test_too_many(self):
        told = asked(TWO_HUNDRED, FOUR, "lists")[0].split(" ; ")
        self.assertEqual(len(told), 200)
        self.assertEqual(asked(MORE, FOUR, "lists", "least", "tie 0 4 9", "undo", "lists")[::4], ["TooMany", "TooMany"])
        self.assertEqual(asked(MOST, FOUR, "lists", "always", "least"), ["TooMany", "-", "24"])


class Deeds(unittest.TestCase):
    def test_ties(self):
        self.assertEqual(asked(RING, [0, 2], "tie 0 1 1", "singles", "tie 0 1 1", "tie 0 2 3", "singles", "tie 0 2 0", "singles"), [
            "done", "0:2 2:2", "done", "done", "0:5 2:5", "done", "0:2 2:2",
        ])
        self.assertEqual(asked(RING, [0, 2], "tie 0 2 0", "undo", "undo"), ["done", "done", "nothing"])

    def test_posts(self):
        self.assertEqual(asked(RING, [0, 2], "post 1", "singles", "unpost 0", "singles", "unpost 1", "undo", "singles"), [
            "done", "0:6 1:12 2:8", "done", "1:8 2:8", "NoPost", "done", "0:6 1:12 2:8",
        ])

    def test_refusals(self):
        self.assertEqual(asked(
            RING, [0, 2], "post 0", "post 2", "post 4", "unpost 4", "unpost 1", "unpost 0", "tie 0 4 1", "tie 4 5 0", "tie 0 99 0",
            "undo", *ASKS,
        ), ["NoPost", "NoPost", "NoPlace", "NoPlace", "NoPost", "NoPost", "NoPlace", "NoPlace", "NoPlace", "nothing"] + asked(RING, [0, 2], *ASKS))

    def test_undo(self):
        self.assertEqual(asked(RING, [0, 2], "undo", "tie 0 1 1", "post 3", "undo", "undo", "undo", "tie 0 1 1", "undo", *ASKS), [
            "nothing", "done", "done", "done", "done", "nothing", "done", "done",
        ] + asked(RING, [0, 2], *ASKS))

    def test_by_words(self):
        dice = Dice(801)
        seen = {}
        for web, posts in small_webs(802, 60, 7):
            desk = DeskByWords(web, posts)
            rows = [some_row(dice, web[0]) for _ in range(30)]
            wished = [desk.answer(row) for row in rows]
            self.assertEqual(asked(web, posts, *rows), wished, (web, posts, rows))
            seen.update({answer: True for answer in wished})
        for answer in ("done", "nothing", "NoPlace", "NoPost", "too great", "0 : -", "-"):
            self.assertIn(answer, seen)

    def test_by_all_cuts(self):
        for web, posts in small_webs(803, 60, 5):
            cuts = [cut for cut in all_cuts(web) if parts(web, posts, cut)]
            least = min(weight_of(web, cut) for cut in cuts)
            lists = sorted(cut for cut in cuts if weight_of(web, cut) == least)
            if len(posts) <= 4:
                self.assertEqual(asked(web, posts, "least", "lists"), [str(least), " ; ".join(cut_by_words(cut) for cut in lists)])


class Rows(unittest.TestCase):
    def refused(self, row, text):
        with self.assertRaises(BadRow, msg=text) as caught:
            desk_told(text)
        self.assertEqual(caught.exception.row, row, text)

    def test_the_web_ahead(self):
        self.refused(0, "")
        self.refused(0, "singles")
        self.refused(0, "web 04\nposts 0 1\nsingles")
        self.refused(1, "web 4")
        self.refused(1, "web 4\nsingles")
        self.refused(1, "web 4\nposts 0\nsingles")
        self.refused(2, "web 4\ntie 0 1 5\ntie 0 1 6\nposts 0 1\nbad")
        self.refused(5, "\n".join(RING_ROWS[:5]))
        self.refused(5, "\n".join(RING_ROWS[:5] + ["singles", "posts 0 1"]))
        self.refused(1, "web 4\ntie 0 1 0\nposts 0 1")

    def test_further_rows(self):
        for row in (
            "", " ", "web 4", "posts 0 2", "post", "post ", "post 1 2", "post 01", "post x", "post  1", " post 1", "post 1 ", "post -1",
            "unpost", "unpost 1 2", "unpost 00", "unpost -1", "undo 1", "undo ", " undo", "undos", "tie", "tie 0 1", "tie 0 1 2 3",
            "tie 0 1 02", "tie 0 1 -1", "tie 0  1 2", "tie 1 0 2", "tie 1 1 2", "tie 9 8 2", "tie a b c", "Tie 0 1 2", "singles 1",
            "singles ", " singles", "single", "singly 2", "least 1", "least ", "lists all", "always ", "always 0", "ever 1", "pieces 3",
            "Pieces", "PIECES", "piece", "singles singly", "too great", "done", "tie 0 1 1.", "tie 0 1 +1", "tie 00 1 1", "post\t1",
        ):
            for ahead in ([], ["singles"], ["post 9", "undo"]):
                self.refused(6 + len(ahead), "\n".join(RING_ROWS + ahead + [row]))
                self.refused(6 + len(ahead), "\n".join(RING_ROWS + ahead + [row, "singles", "worse"]))

    def test_a_row_s_end_behind_the_last(self):
        self.refused(6, "\n".join(RING_ROWS) + "\n")
        self.refused(7, "\n".join(RING_ROWS) + "\nsingles\n")

    def test_places_that_are_not_there_are_no_bad_rows(self):
        self.assertEqual(asked(RING, [0, 2], "tie 0 1" + "0" * 30 + " 5", "post 4", "unpost 1" + "0" * 30), ["NoPlace"] * 3)

    def test_great_weights(self):
        self.assertEqual(asked((2, ()), [0, 1], "tie 0 1 1000000000", "singly"), ["done", "1000000000 : 0-1"])


class Whole(unittest.TestCase):
    def test_great_in_little_time(self):
        begun = time.perf_counter()
        dice = Dice(811)
        for seed in range(3):
            web = Dice(812 + seed).web(30, 60, 10 ** 9)
            rows = [some_row(dice, 30) for _ in range(38)]
            told = asked(web, [0, 5, 10, 15, 20, 29], *rows)
            self.assertEqual(len(told), 38)
        told = asked(great_web(820), [0, 5, 10, 15, 20, 29], "singles", "singly", "pieces", "least", "tie 0 29 1", "post 1", "undo")
        self.assertEqual(told[3:], ["too great", "done", "done", "done"])
        for heaviest in (1, 2, 10 ** 9):
            web = Dice(821).web(12, 40, heaviest)
            self.assertEqual(len(asked(web, FOUR, *(["least", "lists", "always", "ever", "tie 0 11 3", "undo"] * 9))), 54)
        self.assertLess(time.perf_counter() - begun, 60)

    def test_two_desks_by_turns(self):
        first = asked(RING, [0, 2], "tie 0 1 0", "post 1", "singles")
        other = asked(RING, [0, 2], "singles", "undo")
        self.assertEqual(other, ["0:6 2:6", "nothing"])
        self.assertEqual(asked(RING, [0, 2], "tie 0 1 0", "post 1", "singles"), first)

    def test_asked_fairly(self):
        asked_fairly(self, desk_told, "\n".join(RING_ROWS + ASKS + ["post 1", "undo", "undo"]))


if __name__ == "__main__":
    unittest.main()
