"""[11], with [1], [2] and [3] as far as they speak of it: shares rounded at thresholds, and the checker."""

import time
import unittest
from fractions import Fraction
from itertools import permutations

from partedweb.partings import cut_by, is_parting
from partedweb.rounding import owners_by, rounded, shows_rounded, thresholds
from partedweb.shares import cost_at, cost_of, even_shares, shares_by
from partedweb.webs import weight_of
from tests.helpers import (
    Dice, all_owners, asked_fairly, bent, cost_by_words, exchanged, great_web, is_cut_by_words, is_fraction_by_words,
    least_weight, odd_things, parts, small_webs, some_shares,
)

STAR = (4, ((0, 3, 5), (1, 3, 4), (2, 3, 3)))
EVEN_STAR = (4, ((0, 3, 5), (1, 3, 5), (2, 3, 5)))
POSTS = [0, 1, 2]
OWN = [[(1, 1), (0, 1), (0, 1)], [(0, 1), (1, 1), (0, 1)], [(0, 1), (0, 1), (1, 1)]]
HALVES = OWN + [[(1, 2), (1, 2), (0, 1)]]
SIXTHS = OWN + [[(1, 6), (1, 3), (1, 2)]]
GREAT_POSTS = [0, 5, 10, 15, 20, 29]


def owners_by_words(posts, shares, order, threshold):
    owners = []
    for row in shares:
        takers = [at for at in order[:-1] if Fraction(*row[at]) >= Fraction(*threshold)]
        owners.append(posts[(takers + [order[-1]])[0]])
    return tuple(owners)


def rounded_by_words(web, posts, shares):
    """The first lightest of all that rounded is to try, by the places of the tuple that come in order."""
    costs = [Fraction(*cost_at(web, shares, at)) for at in range(len(posts))]
    last = costs.index(max(costs))
    others = [at for at in range(len(posts)) if at != last]
    tried = []
    for turn, order in enumerate((others, others[::-1])):
        for threshold in sorted({Fraction(*share) for row in shares for share in row} - {0}):
            pair = (threshold.numerator, threshold.denominator)
            cut = cut_by(web, owners_by_words(posts, shares, order + [last], pair))
            tried.append((weight_of(web, cut), turn, threshold, cut, order + [last], pair))
    weight, _turn, _threshold, cut, order, pair = min(tried)
    return (weight, cut, order, pair)


def is_so_by_words(web, posts, shares, told):
    """Whether told is what shows_rounded is to take."""
    if told.__class__ is not tuple or len(told) != 4 or told[0].__class__ is not int:
        return False
    weight, cut, order, threshold = told
    if not is_cut_by_words(web, cut) or not is_fraction_by_words(threshold) or not 0 < Fraction(*threshold) <= 1:
        return False
    if order.__class__ not in (list, tuple) or [part for part in order if part.__class__ is not int]:
        return False
    if sorted(order) != list(range(len(posts))):
        return False
    many = len(posts)
    if weight != weight_of(web, cut) or 2 * many * weight > (3 * many - 2) * cost_by_words(web, shares):
        return False
    return list(cut) == cut_by(web, owners_by_words(posts, shares, list(order), threshold))


def some_questions(seed, rounds, most=6):
    dice = Dice(seed)
    for web, posts in small_webs(seed + 1, rounds, most):
        yield web, posts, some_shares(dice, web, posts, 1 + dice.below(8))


class OwnersBy(unittest.TestCase):
    def asked(self, wished, row, order, threshold):
        self.assertEqual(owners_by(POSTS, OWN + [row], order, threshold), (0, 1, 2, wished))

    def test_threshold_of_several_posts(self):
        self.asked(0, [(1, 2), (1, 2), (0, 1)], [0, 1, 2], (1, 2))
        self.asked(1, [(1, 2), (1, 2), (0, 1)], [1, 0, 2], (1, 2))
        self.asked(1, [(1, 2), (1, 2), (0, 1)], [2, 1, 0], (1, 2))
        self.asked(0, [(1, 6), (1, 3), (1, 2)], [0, 2, 1], (1, 6))
        self.asked(2, [(1, 6), (1, 3), (1, 2)], [0, 2, 1], (1, 5))

    def test_threshold_of_none(self):
        for order in permutations(range(3)):
            self.asked(order[2], [(1, 3), (1, 3), (1, 3)], list(order), (1, 2))
            self.asked(order[2], [(1, 2), (1, 2), (0, 1)], order, (2, 3))

    def test_threshold_of_the_last_one_alone(self):
        self.asked(2, [(1, 6), (1, 3), (1, 2)], [0, 1, 2], (1, 2))
        self.asked(2, [(0, 1), (0, 1), (1, 1)], [1, 0, 2], (1, 9))

    def test_the_last_one_is_not_asked_ahead(self):
        self.asked(0, [(1, 6), (1, 3), (1, 2)], [0, 1, 2], (1, 6))
        self.asked(1, [(1, 6), (1, 3), (1, 2)], [0, 1, 2], (1, 4))

    def test_threshold_of_1(self):
        for at in range(3):
            for order in permutations(range(3)):
                self.asked(at, OWN[at], list(order), (1, 1))
        self.asked(2, [(5, 6), (1, 6), (0, 1)], [0, 1, 2], (1, 1))

    def test_just_the_threshold(self):
        self.asked(0, [(333, 1000), (667, 1000), (0, 1)], [0, 2, 1], (333, 1000))
        self.asked(1, [(333, 1000), (667, 1000), (0, 1)], [0, 2, 1], (1, 3))

    def test_two_posts(self):
        shares = [[(1, 1), (0, 1)], [(2, 5), (3, 5)], [(0, 1), (1, 1)]]
        self.assertEqual(owners_by((0, 2), shares, (0, 1), (2, 5)), (0, 0, 2))
        self.assertEqual(owners_by([0, 2], shares, [0, 1], (3, 5)), (0, 2, 2))
        self.assertEqual(owners_by([0, 2], shares, [1, 0], (3, 5)), (0, 2, 2))
        self.assertEqual(owners_by([0, 2], tuple(shares), [1, 0], (4, 5)), (0, 0, 2))

    def test_by_words(self):
        dice = Dice(70)
        for web, posts, shares in some_questions(71, 100):
            for order in permutations(range(len(posts))):
                below = 1 + dice.below(8)
                share = Fraction(1 + dice.below(below), below)
                threshold = (share.numerator, share.denominator)
                owners = owners_by(posts, shares, list(order), threshold)
                self.assertEqual(owners, owners_by_words(posts, shares, list(order), threshold))
                self.assertIs(owners.__class__, tuple)
                self.assertEqual([owners[post] for post in posts], posts)

    def test_shares_by_owners(self):
        for web, posts in small_webs(73, 15, 5):
            for owners in all_owners(web, posts):
                shares = shares_by(posts, owners)
                for threshold in (1, 1), (1, 3):
                    self.assertEqual(owners_by(posts, shares, list(range(len(posts))), threshold), owners)

    def test_asked_fairly(self):
        asked_fairly(self, owners_by, [0, 1, 2], [list(row) for row in SIXTHS], [2, 0, 1], (1, 3))


class Thresholds(unittest.TestCase):
    def test_ordinary(self):
        self.assertEqual(thresholds(SIXTHS), [(1, 6), (1, 3), (1, 2), (1, 1)])
        self.assertEqual(thresholds(tuple(tuple(row) for row in HALVES)), [(1, 2), (1, 1)])

    def test_by_their_size_and_not_by_their_numbers(self):
        self.assertEqual(thresholds([[(2, 9), (7, 9)], [(1, 3), (2, 3)]]), [(2, 9), (1, 3), (2, 3), (7, 9)])
        self.assertEqual(thresholds([[(3, 4), (1, 4)], [(2, 5), (3, 5)]]), [(1, 4), (2, 5), (3, 5), (3, 4)])

    def test_shares_of_0_and_1_alone(self):
        self.assertEqual(thresholds(OWN), [(1, 1)])
        self.assertEqual(thresholds(shares_by([0, 2], (0, 0, 2))), [(1, 1)])

    def test_by_words(self):
        for _web, _posts, shares in some_questions(74, 100):
            wished = sorted({Fraction(*share) for row in shares for share in row if share[0]})
            self.assertEqual(thresholds(shares), [(share.numerator, share.denominator) for share in wished])

    def test_asked_fairly(self):
        asked_fairly(self, thresholds, [list(row) for row in SIXTHS])


class Rounded(unittest.TestCase):
    def test_ordinary(self):
        self.assertEqual(rounded(STAR, POSTS, HALVES), (7, [(1, 3), (2, 3)], [1, 2, 0], (1, 1)))

    def test_the_last_is_the_first_of_the_greatest_cost(self):
        self.assertEqual(rounded(EVEN_STAR, POSTS, even_shares(EVEN_STAR, POSTS))[2][2], 0)
        self.assertEqual([cost_at(STAR, SIXTHS, at) for at in range(3)], [(16, 3), (16, 3), (6, 1)])
        self.assertEqual(rounded(STAR, POSTS, SIXTHS)[2][2], 2)
        shares = OWN + [[(0, 1), (1, 2), (1, 2)]]
        self.assertEqual([cost_at(STAR, shares, at) for at in range(3)], [(5, 1), (6, 1), (6, 1)])
        self.assertEqual(rounded(STAR, POSTS, shares)[2][2], 1)

    def test_of_equal_cuts_the_first_order_then_the_least_threshold(self):
        thirds = even_shares(EVEN_STAR, POSTS)
        self.assertEqual(rounded(EVEN_STAR, POSTS, thirds), (10, [(0, 3), (2, 3)], [1, 2, 0], (1, 3)))
        web = (5, ((0, 3, 2), (1, 3, 2), (2, 3, 2), (3, 4, 1)))
        shares = OWN + [[(1, 2), (1, 4), (1, 4)], [(1, 2), (1, 4), (1, 4)]]
        self.assertEqual(rounded(web, POSTS, shares), (4, [(0, 3), (2, 3)], [1, 2, 0], (1, 4)))

    def test_the_falling_order_where_it_alone_is_lightest(self):
        web = (5, ((0, 2, 1), (1, 4, 1), (2, 4, 2), (3, 4, 1)))
        shares = OWN + [[(1, 2), (1, 2), (0, 1)], [(0, 1), (1, 1), (0, 1)]]
        self.assertEqual(rounded(web, POSTS, shares), (3, [(0, 2), (2, 4)], [1, 0, 2], (1, 2)))

    def test_two_posts(self):
        web = (3, ((0, 1, 2), (1, 2, 3)))
        shares = [[(1, 1), (0, 1)], [(2, 5), (3, 5)], [(0, 1), (1, 1)]]
        self.assertEqual(rounded(web, [0, 2], shares), (2, [(0, 1)], [1, 0], (2, 5)))
        self.assertEqual(rounded(web, (0, 2), tuple(shares)), (2, [(0, 1)], [1, 0], (2, 5)))

    def test_each_place_is_a_post(self):
        web = (3, ((0, 1, 1), (1, 2, 4)))
        self.assertEqual(rounded(web, POSTS, OWN), (5, [(0, 1), (1, 2)], [0, 2, 1], (1, 1)))

    def test_no_ties_and_several_pieces(self):
        self.assertEqual(rounded((4, ()), POSTS, HALVES), (0, [], [1, 2, 0], (1, 2)))
        web = (5, ((0, 3, 2), (1, 4, 2)))
        self.assertEqual(rounded(web, [0, 1], even_shares(web, [0, 1])), (2, [(0, 3)], [1, 0], (1, 2)))

    def test_shares_by_owners(self):
        for web, posts in small_webs(76, 15, 5):
            for owners in all_owners(web, posts):
                told = rounded(web, posts, shares_by(posts, owners))
                self.assertEqual((told[1], told[3]), (cut_by(web, owners), (1, 1)))

    def test_by_words(self):
        both = set()
        for web, posts, shares in some_questions(77, 300):
            told = rounded(web, posts, shares)
            self.assertEqual(told, rounded_by_words(web, posts, shares))
            self.assertEqual([told.__class__] + [part.__class__ for part in told], [tuple, int, list, list, tuple])
            if len(posts) > 2:
                both.add(told[2][0] > told[2][1])
        self.assertEqual(both, {False, True})

    def test_bound(self):
        for web, posts, shares in some_questions(79, 300):
            weight, cut, _order, _threshold = rounded(web, posts, shares)
            many = len(posts)
            self.assertTrue(parts(web, posts, cut))
            self.assertEqual(weight, sum(heavy for a, b, heavy in web[1] if (a, b) in cut))
            self.assertGreaterEqual(weight, least_weight(web, posts))
            self.assertLessEqual(2 * many * weight, (3 * many - 2) * cost_by_words(web, shares))

    def test_great_in_little_time(self):
        begun = time.perf_counter()
        for seed in range(81, 83):
            web = great_web(seed)
            shares = some_shares(Dice(seed), web, GREAT_POSTS, 10 ** 6 - 1)
            told = rounded(web, GREAT_POSTS, shares)
            self.assertEqual(told, rounded_by_words(web, GREAT_POSTS, shares))
            self.assertIs(is_parting(web, GREAT_POSTS, told[1]), True)
            self.assertIs(shows_rounded(web, GREAT_POSTS, shares, told), True)
        self.assertLess(time.perf_counter() - begun, 60)

    def test_asked_fairly(self):
        asked_fairly(self, rounded, STAR, [0, 1, 2], [list(row) for row in SIXTHS])
        asked_fairly(self, rounded, (4, ()), [0, 1, 2], [list(row) for row in HALVES])


class ShowsRounded(unittest.TestCase):
    def shown(self, wished, web, posts, shares, told):
        self.assertIs(shows_rounded(web, posts, shares, told), wished, (web, posts, shares, told))

    def test_what_is_told(self):
        for web, posts, shares in some_questions(84, 120):
            weight, cut, order, threshold = told = rounded(web, posts, shares)
            self.shown(True, web, posts, shares, told)
            self.shown(True, web, tuple(posts), tuple(shares), (weight, tuple(cut), tuple(order), threshold))
            self.shown(False, web, posts, shares, list(told))
            self.shown(False, web, posts, shares, (weight, cut, order, list(threshold)))
            self.shown(False, web, posts, shares, exchanged(told))
            for bad in (weight + 1, weight - 1, None, str(weight)):
                self.shown(False, web, posts, shares, (bad, cut, order, threshold))

    def test_any_order_and_threshold_within_the_bound(self):
        for web, posts, shares in some_questions(86, 60):
            for order in permutations(range(len(posts))):
                for threshold in thresholds(shares) + [(1, 2), (1, 100), (1, 1)]:
                    cut = cut_by(web, owners_by_words(posts, shares, list(order), threshold))
                    told = (weight_of(web, cut), cut, list(order), threshold)
                    wished = 2 * len(posts) * told[0] <= (3 * len(posts) - 2) * cost_by_words(web, shares)
                    self.shown(wished, web, posts, shares, told)

    def test_just_the_bound_and_one_above(self):
        halves = OWN + [[(1, 2), (1, 2), (0, 1)]]
        for one, other, wished in ((5, 7, True), (6, 7, True), (4, 7, False), (4, 8, False)):
            web = (4, ((0, 3, one), (1, 3, other)))
            self.assertEqual(Fraction(*cost_of(web, halves)), Fraction(one + other, 2))
            self.shown(wished, web, POSTS, halves, (other, [(1, 3)], [0, 1, 2], (1, 2)))

    def test_too_heavy(self):
        web = (3, ((0, 1, 1), (1, 2, 100)))
        shares = [[(1, 1), (0, 1)], [(1, 100), (99, 100)], [(0, 1), (1, 1)]]
        self.assertEqual(cost_of(web, shares), (199, 100))
        self.shown(False, web, [0, 2], shares, (100, [(1, 2)], [0, 1], (1, 100)))
        self.shown(True, web, [0, 2], shares, (1, [(0, 1)], [0, 1], (1, 50)))

    def test_cuts(self):
        order, threshold = [1, 2, 0], (1, 1)
        self.shown(True, STAR, POSTS, HALVES, (7, [(1, 3), (2, 3)], order, threshold))
        for weight, cut in (
            (7, [(2, 3), (1, 3)]), (7, [(3, 1), (3, 2)]), (7, [[1, 3], [2, 3]]), (4, [(1, 3)]), (0, []), (7, None),
            (7, [(1, 3), (2, 3), (2, 3)]), (12, [(0, 3), (1, 3), (2, 3)]), (8, [(0, 3), (2, 3)]), (7, [(True, 3), (2, 3)]),
            (7, "1-3"), (7, 7), (7, [None]), (7, [(1, 3), ([2], 3)]), (7, [(1, 3), ()]), (7, [(1, 3, 4), (2, 3, 3)]),
        ):
            self.shown(False, STAR, POSTS, HALVES, (weight, cut, order, threshold))

    def test_orders(self):
        cut = [(1, 3), (2, 3)]
        for order in ([1, 2, 0], [2, 1, 0], (2, 1, 0)):
            self.shown(True, STAR, POSTS, HALVES, (7, cut, order, (1, 1)))
        for order in (
            [0, 2, 1], [1, 2], [1, 2, 0, 0], [1, 2, 3], [1, 1, 0], [0, 1], [], [-1, 1, 0], [True, 2, 0], [1, 2, False],
            [1, 2, None], ["1", "2", "0"], "120", None, 0, [[1], [2], [0]], [1, [2], 0], [(1,), 2, 0],
        ):
            self.shown(False, STAR, POSTS, HALVES, (7, cut, order, (1, 1)))

    def test_thresholds(self):
        for threshold in ((1, 1), (2, 3), (501, 1000), (999999, 1000000)):
            self.shown(True, STAR, POSTS, HALVES, (7, [(1, 3), (2, 3)], [1, 2, 0], threshold))
        for threshold in (
            (1, 2), (1, 3), (0, 1), (-1, 1), (-2, -3), (2, 2), (4, 6), (4, 3), (2, 1), (1, 0), [2, 3], (2, 3, 1), (2,),
            (True, 1), (1, True), (2, "3"), 1, True, None, "1", (), [], (None, None), ((2, 3),), (2, -3),
        ):
            self.shown(False, STAR, POSTS, HALVES, (7, [(1, 3), (2, 3)], [1, 2, 0], threshold))

    def test_true_and_false_are_no_weights(self):
        web = (2, ((0, 1, 1),))
        own = [[(1, 1), (0, 1)], [(0, 1), (1, 1)]]
        self.shown(True, web, [0, 1], own, (1, [(0, 1)], [0, 1], (1, 1)))
        self.shown(False, web, [0, 1], own, (True, [(0, 1)], [0, 1], (1, 1)))
        self.shown(False, web, [0, 1], own, (1, [(False, True)], [0, 1], (1, 1)))
        self.shown(False, web, [0, 1], own, (1, [(0, 1)], [False, True], (1, 1)))
        self.shown(True, (2, ()), [0, 1], own, (0, [], [0, 1], (1, 1)))
        self.shown(False, (2, ()), [0, 1], own, (False, [], [0, 1], (1, 1)))

    def test_parts_more_or_less(self):
        told = rounded(STAR, POSTS, SIXTHS)
        for thing in (told[:3], told[1:], told + (0,), told + told, (told,), [told], told[::-1], ()):
            self.shown(False, STAR, POSTS, SIXTHS, thing)

    def test_bent_papers(self):
        for web, posts, shares in some_questions(88, 25, 5):
            told = rounded(web, posts, shares)
            for thing in bent(told):
                self.shown(is_so_by_words(web, posts, shares, thing), web, posts, shares, thing)

    def test_things_of_no_kind(self):
        for web, shares in ((STAR, SIXTHS), ((4, ()), HALVES)):
            for thing in odd_things():
                self.shown(False, web, POSTS, shares, thing)
                for at in range(4):
                    told = list(rounded(web, POSTS, shares))
                    told[at] = thing
                    self.shown(is_so_by_words(web, POSTS, shares, tuple(told)), web, POSTS, shares, tuple(told))

    def test_asked_fairly(self):
        shares = [list(row) for row in SIXTHS]
        asked_fairly(self, shows_rounded, STAR, [0, 1, 2], shares, rounded(STAR, POSTS, shares))
        asked_fairly(self, shows_rounded, STAR, [0, 1, 2], shares, (1, [[]], [2], [(1, 3)]))


if __name__ == "__main__":
    unittest.main()
