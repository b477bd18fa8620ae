"""[20], with [2] and [3] as far as they speak of it: webs and posts as texts, and the refusal BadRow."""

import time
import unittest

from partedweb.errors import BadRow, PartError
from partedweb.sheet import web_from, web_text
from tests.helpers import Dice, asked_fairly, great_web, small_webs

RING = (4, ((0, 1, 5), (0, 3, 2), (1, 2, 7), (2, 3, 1)))
RING_TEXT = "web 4\ntie 0 1 5\ntie 0 3 2\ntie 1 2 7\ntie 2 3 1\nposts 0 2"


class WebText(unittest.TestCase):
    def test_ordinary(self):
        self.assertEqual(web_text(RING, [0, 2]), RING_TEXT)
        self.assertEqual(web_text(RING, (0, 1, 2, 3))[-13:], "posts 0 1 2 3")

    def test_no_ties(self):
        self.assertEqual(web_text((2, ()), [0, 1]), "web 2\nposts 0 1")

    def test_great_numbers(self):
        web = (30, ((9, 10, 10 ** 9), (9, 29, 1)))
        self.assertEqual(web_text(web, [10, 29]), "web 30\ntie 9 10 1000000000\ntie 9 29 1\nposts 10 29")

    def test_asked_fairly(self):
        asked_fairly(self, web_text, RING, [0, 2])


class WebFrom(unittest.TestCase):
    def refused(self, row, text):
        with self.assertRaises(BadRow, msg=text) as caught:
            web_from(text)
        self.assertEqual(caught.exception.row, row, text)

    def test_ordinary(self):
        self.assertEqual(web_from(RING_TEXT), (RING, [0, 2]))
        self.assertEqual(web_from("web 2\nposts 0 1"), ((2, ()), [0, 1]))

    def test_kinds(self):
        told = web_from(RING_TEXT)
        self.assertEqual([told.__class__] + [part.__class__ for part in told], [tuple, tuple, list])
        self.assertEqual([told[0][1].__class__] + [tie.__class__ for tie in told[0][1]], [tuple] * 5)

    def test_what_is_written_is_read(self):
        for web, posts in small_webs(701, 100):
            self.assertEqual(web_from(web_text(web, posts)), (web, posts))
            self.assertEqual(web_from(web_text(web, tuple(posts))), (web, posts))

    def test_great_in_little_time(self):
        begun = time.perf_counter()
        for seed in range(20):
            web = great_web(702 + seed)
            self.assertEqual(web_from(web_text(web, [0, 3, 7, 20, 28, 29])), (web, [0, 3, 7, 20, 28, 29]))
        self.assertLess(time.perf_counter() - begun, 10)

    def test_bounds_are_not_looked_at(self):
        self.assertEqual(web_from("web 1000\ntie 0 999 1" + "0" * 30 + "\nposts 5 998"), (
            (1000, ((0, 999, 10 ** 30),)), [5, 998],
        ))
        self.assertEqual(web_from("web 1" + "0" * 40 + "\nposts " + " ".join(str(post) for post in range(40))), (
            (10 ** 40, ()), list(range(40)),
        ))

    def test_the_row_of_the_web(self):
        for text in (
            "", "web", "web ", "web  4", " web 4", "web 4 ", "web 04", "web 0", "web -1", "web +4", "web 4 4", "web four", "Web 4",
            "webs 4", "web\t4", "web4", "4", "web 4.0", "web 1_0", "web 00", "posts 0 1", "tie 0 1 1", "web 4,", "web 0x4",
        ):
            self.refused(0, text)
            self.refused(0, text + "\nposts 0 1")
            self.refused(0, text + "\n" + RING_TEXT)
        self.refused(0, "\n" + RING_TEXT)

    def test_the_row_of_posts_never_comes(self):
        self.refused(1, "web 1")
        self.refused(1, "web 4")
        self.refused(2, "web 4\ntie 0 1 5")
        self.refused(5, "web 4\ntie 0 1 5\ntie 0 3 2\ntie 1 2 7\ntie 2 3 1")

    def test_a_web_of_one_place_has_no_two_posts(self):
        for row in ("posts 0", "posts 0 0", "posts 0 1", "posts"):
            self.refused(1, "web 1\n" + row)
        self.refused(1, "web 1\ntie 0 0 1\nposts 0 0")

    def test_rows_of_posts(self):
        for row in (
            "posts", "posts ", "posts 0", "posts 0 0", "posts 2 0", "posts 0 4", "posts 4 5", "posts 0  2", "posts 0 2 ", " posts 0 2",
            "posts 00 2", "posts 0 02", "posts 0 1 1", "posts 0 2 1", "posts -1 2", "posts 0 x", "posts 0,2", "post 0 2",
            "Posts 0 2", "posts  0 2", "posts 0 1 2 3 4", "posts 0 +2", "posts 0\t2", "posts0 2", "posts 0 2\r",
        ):
            self.refused(1, "web 4\n" + row)
            self.refused(2, "web 4\ntie 1 2 3\n" + row)
        self.assertEqual(web_from("web 4\nposts 0 1 2 3"), ((4, ()), [0, 1, 2, 3]))

    def test_rows_of_ties(self):
        for row in (
            "tie", "tie 0", "tie 0 1", "tie 0 1 2 3", "tie 0 1 0", "tie 1 1 2", "tie 2 1 2", "tie 0 4 2", "tie 4 5 2", "tie -1 1 2",
            "tie 0 1 -2", "tie 0 1 02", "tie 00 1 2", "tie 0 01 2", "tie 0 1  2", "tie  0 1 2", "tie 0 1 2 ", " tie 0 1 2", "Tie 0 1 2",
            "ties 0 1 2", "tie 0 1 x", "tie 0 1 2.", "tie 0 1 1e3", "", " ", "web 4", "tie 0-1 2", "tie,0 1 2", "undo", "tie 0 1 2\r",
            "tie 0\t1 2", "tie 0 1 1_0",
        ):
            self.refused(1, "web 4\n" + row)
            self.refused(1, "web 4\n" + row + "\nposts 0 1")
            self.refused(1, "web 4\n" + row + "\n" + row + "\nposts 0")

    def test_ties_that_do_not_rise(self):
        self.refused(2, "web 4\ntie 0 2 5\ntie 0 1 5\nposts 0 1")
        self.refused(2, "web 4\ntie 0 1 5\ntie 0 1 5\nposts 0 1")
        self.refused(2, "web 4\ntie 0 1 5\ntie 0 1 6\nposts 0 1")
        self.refused(2, "web 4\ntie 1 2 5\ntie 0 3 6\nposts 0 1")
        self.refused(3, "web 4\ntie 0 1 5\ntie 0 2 6\ntie 0 1 7")
        self.assertEqual(web_from("web 12\ntie 2 3 1\ntie 2 11 1\ntie 10 11 1\nposts 2 10")[0][1][2], (10, 11, 1))

    def test_rows_behind_the_posts(self):
        for row in ("", "posts 0 2", "tie 0 2 1", "singles", " ", "web 4"):
            self.refused(6, RING_TEXT + "\n" + row)
        self.refused(6, RING_TEXT + "\n\n")
        self.refused(2, "web 4\nposts 0 1\ntie 0 1 5")

    def test_the_first_bad_row(self):
        self.refused(1, "web 4\ntie 0 1\ntie 0\nposts 0")
        self.refused(2, "web 4\ntie 0 1 1\nposts 3 0\ntie 0 1 1")
        self.refused(0, "web\nposts 0")

    def test_one_row_more_or_less(self):
        rows = RING_TEXT.split("\n")
        for at in range(1, 5):
            less = rows[:at] + rows[at + 1:]
            self.assertEqual(len(web_from("\n".join(less))[0][1]), 3)
            self.refused(at + 1, "\n".join(rows[:at + 1] + rows[at:]))
            self.refused(at, "\n".join(rows[:at] + [""] + rows[at:]))

    def test_bent_texts(self):
        """A text that is read is one that is written."""
        dice = Dice(703)
        read = 0
        for _ in range(3000):
            at = dice.below(len(RING_TEXT))
            text = RING_TEXT[:at] + "0123459 \ntiepowbs-"[dice.below(18)] * dice.below(3) + RING_TEXT[at + dice.below(3):]
            try:
                web, posts = web_from(text)
            except BadRow as refusal:
                self.assertIn(refusal.row, range(text.count("\n") + 2))
            else:
                read += 1
                self.assertEqual(web_text(web, posts), text)
        self.assertGreater(read, 20)

    def test_the_refusal(self):
        self.assertEqual(BadRow.__bases__, (PartError,))

    def test_asked_fairly(self):
        asked_fairly(self, web_from, RING_TEXT)


if __name__ == "__main__":
    unittest.main()
