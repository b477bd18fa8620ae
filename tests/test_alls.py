"""[16], with [1], [2] and [3] as far as they speak of it: all least partings, and the refusal TooMany."""

import time
import unittest

from partedweb.alls import all_least, always_cut, count_least, ever_cut, second_least
from partedweb.errors import PartError, TooMany
from partedweb.narrow import least_narrow
from partedweb.partings import cut_by
from partedweb.trees import is_tree, least_on_tree
from partedweb.webs import pieces, weight_of
from tests.helpers import Dice, all_cuts, asked_fairly, parts, rows_by_weight, small_webs

RING = (4, ((0, 1, 1), (0, 3, 1), (1, 2, 1), (2, 3, 1)))
STAR = (4, ((0, 3, 5), (1, 3, 4), (2, 3, 3)))
# Each block between the posts can be parted in 5, 5 and 8 ways, whatever the others are.
TWO_HUNDRED = (10, tuple(sorted([
    (0, 4, 1), (1, 4, 1), (2, 5, 1), (4, 5, 1), (0, 6, 1), (1, 6, 1), (2, 7, 1), (6, 7, 1),
    (0, 8, 1), (1, 8, 1), (2, 9, 1), (3, 9, 1), (8, 9, 1),
])))
MORE = (12, tuple(sorted([
    (0, 4, 1), (0, 6, 1), (0, 10, 1), (1, 4, 1), (1, 9, 1), (2, 4, 1), (2, 6, 1), (2, 8, 1), (2, 11, 1), (3, 7, 1),
    (3, 8, 1), (3, 11, 1), (5, 8, 1), (5, 9, 1), (6, 7, 1), (7, 8, 1), (7, 10, 1),
])))
MOST = (12, tuple((post, place, 1) for post in range(4) for place in range(4, 12)))
FOUR = [0, 1, 2, 3]


def chain(ties):
    """A row of so many ties of one weight: each is a least parting of its ends."""
    return (ties + 1, tuple((place, place + 1, 2) for place in range(ties)))


def least_by_rows(web, posts):
    rows = rows_by_weight(web, posts)
    return sorted({tuple(cut_by(web, owners)) for owners in rows[min(rows)]})


def least_by_cuts(web, posts):
    """All least partings, all cuts gone through."""
    cuts = [cut for cut in all_cuts(web) if parts(web, posts, cut)]
    least = min(weight_of(web, cut) for cut in cuts)
    return sorted(cut for cut in cuts if weight_of(web, cut) == least)


class AllLeast(unittest.TestCase):
    def test_ordinary(self):
        self.assertEqual(all_least(STAR, [0, 1, 2]), [[(1, 3), (2, 3)]])
        self.assertEqual(all_least(RING, [0, 2]), [
            [(0, 1), (0, 3)], [(0, 1), (2, 3)], [(0, 3), (1, 2)], [(1, 2), (2, 3)],
        ])
        self.assertEqual(all_least(RING, (0, 1, 2)), [[(0, 1), (0, 3), (1, 2)], [(0, 1), (1, 2), (2, 3)]])

    def test_nothing_to_cut(self):
        for web, posts in (((3, ()), [0, 2]), ((4, ((0, 1, 2),)), [1, 2]), ((5, ((0, 3, 2), (1, 4, 1))), [0, 1, 2])):
            self.assertEqual(all_least(web, posts), [[]])
            self.assertEqual(count_least(web, posts), 1)
            self.assertEqual(always_cut(web, posts), [])
            self.assertEqual(ever_cut(web, posts), [])

    def test_several_rows_by_one_cut(self):
        web = (6, ((0, 1, 2), (1, 2, 3), (4, 5, 1)))
        rows = rows_by_weight(web, [0, 2])
        self.assertEqual(len(rows[2]), 4)
        self.assertEqual(all_least(web, [0, 2]), [[(0, 1)]])
        self.assertEqual(count_least(web, [0, 2]), 1)

    def test_each_place_is_a_post(self):
        self.assertEqual(all_least(RING, FOUR), [[(0, 1), (0, 3), (1, 2), (2, 3)]])

    def test_by_all_cuts(self):
        for web, posts in small_webs(221, 120, 6):
            if len(web[1]) <= 8:
                self.assertEqual(all_least(web, posts), least_by_cuts(web, posts))

    def test_by_all_rows_of_owners(self):
        for web, posts in small_webs(222, 200, 8):
            told = all_least(web, posts)
            self.assertEqual([tuple(cut) for cut in told], least_by_rows(web, posts))
            self.assertEqual({cut.__class__ for cut in told}, {list})
            self.assertEqual(told, sorted(told))
            self.assertEqual(count_least(web, posts), len(told))

    def test_just_200_and_more(self):
        told = all_least(TWO_HUNDRED, FOUR)
        self.assertEqual(len(told), 200)
        self.assertEqual([tuple(cut) for cut in told], least_by_rows(TWO_HUNDRED, FOUR))
        for web in (MORE, MOST):
            with self.assertRaises(TooMany) as caught:
                all_least(web, FOUR)
            self.assertIs(caught.exception.__class__, TooMany)
            self.assertIsInstance(caught.exception, PartError)

    def test_one_less_and_one_more_than_200(self):
        self.assertEqual(all_least(chain(199), [0, 199]), [[(at, at + 1)] for at in range(199)])
        self.assertEqual(all_least(chain(200), [0, 200]), [[(at, at + 1)] for at in range(200)])
        self.assertEqual(count_least(chain(201), [0, 201]), 201)
        with self.assertRaises(TooMany):
            all_least(chain(201), [0, 201])

    def test_a_refusal_changes_nothing(self):
        posts = list(FOUR)
        for _ in range(2):
            with self.assertRaises(TooMany):
                all_least(MORE, posts)
        self.assertEqual(posts, FOUR)
        self.assertEqual(len(all_least(TWO_HUNDRED, posts)), 200)

    def test_asked_fairly(self):
        asked_fairly(self, all_least, RING, [0, 2])
        asked_fairly(self, all_least, (3, ()), [0, 2])


class CountLeast(unittest.TestCase):
    def test_ordinary(self):
        self.assertEqual(count_least(STAR, [0, 1, 2]), 1)
        self.assertEqual(count_least(RING, (0, 2)), 4)

    def test_more_than_200_are_counted(self):
        self.assertEqual(count_least(TWO_HUNDRED, FOUR), 200)
        self.assertEqual(count_least(MORE, FOUR), 204)
        self.assertEqual(count_least(MOST, FOUR), 4 ** 8)

    def test_asked_fairly(self):
        asked_fairly(self, count_least, RING, [0, 2])


class TiesCut(unittest.TestCase):
    def test_ordinary(self):
        self.assertEqual(always_cut(RING, [0, 2]), [])
        self.assertEqual(ever_cut(RING, [0, 2]), [(0, 1), (0, 3), (1, 2), (2, 3)])
        self.assertEqual(always_cut(RING, (0, 1, 2)), [(0, 1), (1, 2)])
        self.assertEqual(ever_cut(RING, (0, 1, 2)), [(0, 1), (0, 3), (1, 2), (2, 3)])
        self.assertEqual(always_cut(STAR, [0, 1, 2]), [(1, 3), (2, 3)])
        self.assertEqual(ever_cut(STAR, [0, 1, 2]), [(1, 3), (2, 3)])

    def test_by_all_rows_of_owners(self):
        for web, posts in small_webs(223, 200, 7):
            cuts = [set(cut) for cut in least_by_rows(web, posts)]
            self.assertEqual(always_cut(web, posts), sorted(set.intersection(*cuts)))
            self.assertEqual(ever_cut(web, posts), sorted(set.union(*cuts)))
            self.assertIs(always_cut(web, posts).__class__, list)

    def test_more_than_200_are_no_refusal(self):
        tied = (12, tuple(sorted(MOST[1] + ((0, 1, 7),))))
        self.assertEqual(always_cut(tied, FOUR), [(0, 1)])
        self.assertEqual(ever_cut(tied, FOUR), [tie[:2] for tie in tied[1]])
        cuts = [set(cut) for cut in least_by_rows(MORE, FOUR)]
        self.assertEqual(always_cut(MORE, FOUR), sorted(set.intersection(*cuts)))
        self.assertEqual(ever_cut(MORE, FOUR), sorted(set.union(*cuts)))

    def test_asked_fairly(self):
        asked_fairly(self, always_cut, RING, [0, 1, 2])
        asked_fairly(self, ever_cut, RING, [0, 1, 2])


class SecondLeast(unittest.TestCase):
    def test_ordinary(self):
        self.assertEqual(second_least(STAR, [0, 1, 2]), 8)
        self.assertEqual(second_least(RING, (0, 1, 2)), 4)
        self.assertEqual(second_least((4, ((0, 1, 1), (1, 2, 9), (2, 3, 5))), [0, 3]), 5)

    def test_none(self):
        self.assertIsNone(second_least((3, ()), [0, 2]))
        self.assertIsNone(second_least(RING, FOUR))
        self.assertIsNone(second_least(RING, [0, 2]))
        self.assertIsNone(second_least((3, ((0, 1, 2), (1, 2, 2))), [0, 2]))
        self.assertIsNone(second_least(MOST, FOUR))

    def test_rows_that_cut_what_hangs_with_no_post(self):
        self.assertEqual(second_least((4, ((2, 3, 5),)), [0, 1]), 5)
        self.assertEqual(second_least((5, ((0, 1, 9), (2, 3, 5))), [0, 1]), 14)

    def test_by_all_rows_of_owners(self):
        seen = set()
        for web, posts in small_webs(224, 300, 7):
            weights = sorted(rows_by_weight(web, posts)) + [None]
            self.assertEqual(second_least(web, posts), weights[1])
            seen.add(weights[1] is None)
        self.assertEqual(seen, {False, True})

    def test_asked_fairly(self):
        asked_fairly(self, second_least, RING, [0, 2])


class All(unittest.TestCase):
    def test_the_other_ways_agree(self):
        for web, posts in small_webs(225, 100, 9):
            weight, owners, many = least_narrow(web, posts, list(range(web[0])))
            cuts = all_least(web, posts)
            self.assertEqual({weight_of(web, cut) for cut in cuts}, {weight})
            self.assertIn(cut_by(web, owners), cuts)
            loose = [piece for piece in pieces(web) if not set(piece) & set(posts)]
            self.assertEqual(many, len(cuts) * len(posts) ** len(loose))
            if is_tree(web):
                self.assertEqual(least_on_tree(web, posts)[0], weight)

    def test_webs_at_the_bounds_in_little_time(self):
        begun = time.perf_counter()
        dice = Dice(226)
        full = [(a, b) for a in range(12) for b in range(a + 1, 12)]
        webs = [(12, tuple((a, b, 1 + dice.below(10 ** 9)) for a, b in full)) for _ in range(3)]
        webs += [(12, tuple((a, b, 1) for a, b in full)), (12, ())]
        webs += [dice.web(12, ties, heaviest) for ties in (11, 20, 40) for heaviest in (1, 3, 10 ** 9)]
        for web in webs:
            posts = dice.posts(12, 4)
            weight, owners, _many = least_narrow(web, posts, list(range(12)))
            self.assertIn(tuple(cut_by(web, owners)), [tuple(cut) for cut in all_least(web, posts)])
            self.assertEqual(weight_of(web, ever_cut(web, posts)) >= weight, True)
            self.assertEqual(weight_of(web, always_cut(web, posts)) <= weight, True)
            second = second_least(web, posts)
            self.assertTrue(second is None or second > weight)
        self.assertLess(time.perf_counter() - begun, 60)

    def test_posts_that_come_last(self):
        late = (12, tuple(sorted((place, post, 1 + place) for place in range(8) for post in range(8, 12))))
        self.assertEqual(count_least(late, [8, 9, 10, 11]), 4 ** 8)
        self.assertIsNone(second_least(late, [8, 9, 10, 11]))


if __name__ == "__main__":
    unittest.main()
