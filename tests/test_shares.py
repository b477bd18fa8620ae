"""[10], with [1], [2] and [3] as far as they speak of it: shares and what they cost."""

import time
import unittest
from fractions import Fraction

from partedweb.partings import cut_by
from partedweb.shares import cost_at, cost_of, even_shares, is_shares, mixed, shares_by
from partedweb.webs import weight_of
from tests.helpers import (
    Dice, all_owners, asked_fairly, bent, cost_by_words, exchanged, great_web, is_fraction_by_words, is_shares_by_words,
    nested, odd_things, small_webs, some_shares, told_fraction,
)

STAR = (4, ((0, 3, 5), (1, 3, 4), (2, 3, 3)))
HALVES = [[(1, 1), (0, 1), (0, 1)], [(0, 1), (1, 1), (0, 1)], [(0, 1), (0, 1), (1, 1)], [(1, 2), (1, 2), (0, 1)]]
GREAT_POSTS = [0, 5, 10, 15, 20, 29]


def at_by_words(web, shares, at):
    return sum(weight * abs(Fraction(*shares[a][at]) - Fraction(*shares[b][at])) for a, b, weight in web[1])


def tuples(shares):
    return tuple(tuple(row) for row in shares)


class IsShares(unittest.TestCase):
    def asked(self, wished, web, posts, thing):
        self.assertIs(is_shares(web, posts, thing), wished, (web, posts, thing))

    def test_ordinary(self):
        self.asked(True, STAR, [0, 1, 2], HALVES)
        self.asked(True, STAR, (0, 1, 2), tuples(HALVES))
        self.asked(True, STAR, [0, 1, 2], HALVES[:3] + [((1, 3), (1, 2), (1, 6))])
        self.asked(True, STAR, [0, 1, 2], HALVES[:3] + [[(0, 1), (1, 1), (0, 1)]])

    def test_two_posts(self):
        self.asked(True, (3, ()), [0, 2], [[(1, 1), (0, 1)], [(2, 7), (5, 7)], [(0, 1), (1, 1)]])
        self.asked(False, (3, ()), [0, 2], [[(1, 1), (0, 1)], [(2, 7), (4, 7)], [(0, 1), (1, 1)]])

    def test_each_place_is_a_post(self):
        self.asked(True, (2, ((0, 1, 1),)), [0, 1], [[(1, 1), (0, 1)], [(0, 1), (1, 1)]])
        self.asked(False, (2, ((0, 1, 1),)), [0, 1], [[(0, 1), (1, 1)], [(1, 1), (0, 1)]])
        self.asked(False, (2, ((0, 1, 1),)), [0, 1], [[(1, 1), (0, 1)], [(1, 2), (1, 2)]])

    def test_rows_that_are_none(self):
        for row in (
            [(1, 2), (1, 2), (1, 2)], [(1, 2), (1, 3), (0, 1)], [(3, 2), (-1, 2), (0, 1)], [(2, 1), (-1, 1), (0, 1)],
            [(1, 2), (1, 2)], [(1, 2), (1, 2), (0, 1), (0, 1)], [(2, 4), (1, 2), (0, 1)], [(1, 2), (1, 2), (0, 2)],
            [(1, 2), (1, 2), (0, 0)], [(1, 2), (-1, -2), (0, 1)], [(1, 2), (1, 2), (0, -1)], [[1, 2], (1, 2), (0, 1)],
            [(1, 2), (1, 2), (False, 1)], [(True, 2), (1, 2), (0, 1)], [(1, 2), (1, 2), (0, True)], [(1, 1), 0, 0],
            [(1, 2), (1, 2), (0, 1, 1)], [(1, 2), (1, 2), (0,)], [(1, 2), (1, 2), ()], [(1, 2), (1, 2), None], [], (),
            [("1", 2), (1, 2), (0, 1)], [(1, 2), (1, 2), "01"], None, 0, "x", (1, 2), [(0, 1), (0, 1), (0, 1)],
        ):
            self.asked(False, STAR, [0, 1, 2], HALVES[:3] + [row])

    def test_lists_that_are_none(self):
        for thing in (HALVES[:3], HALVES[1:], HALVES + HALVES[3:], HALVES[::-1], [], [HALVES], (HALVES,), None, "x", 4):
            self.asked(False, STAR, [0, 1, 2], thing)
        self.asked(False, STAR, [0, 1, 2], exchanged(HALVES))

    def test_by_words(self):
        dice = Dice(51)
        for web, posts in small_webs(52, 25, 5):
            shares = some_shares(dice, web, posts, 9)
            self.asked(True, web, posts, shares)
            for thing in bent(shares):
                self.asked(is_shares_by_words(web, posts, thing), web, posts, thing)

    def test_things_of_no_kind(self):
        for thing in odd_things():
            self.asked(False, STAR, [0, 1, 2], thing)
            self.asked(False, STAR, [0, 1, 2], HALVES[:3] + [thing])
            self.asked(False, STAR, [0, 1, 2], HALVES[:3] + [[(1, 1), (0, 1), thing]])
            whole = HALVES[:3] + [[(1, 1), (0, 1), (0, thing)]]
            self.asked(is_shares_by_words(STAR, [0, 1, 2], whole), STAR, [0, 1, 2], whole)
        self.asked(False, STAR, [0, 1, 2], HALVES[:3] + [[nested(38, lambda thing: (thing, 1))] * 3])

    def test_asked_fairly(self):
        asked_fairly(self, is_shares, STAR, [0, 1, 2], [list(row) for row in HALVES])


class Costs(unittest.TestCase):
    def test_cost_of(self):
        self.assertEqual(cost_of(STAR, HALVES), (15, 2))
        self.assertEqual(cost_of(STAR, tuples(HALVES)), (15, 2))
        self.assertEqual(cost_of(STAR, HALVES[:3] + [[(1, 3), (1, 3), (1, 3)]]), (8, 1))
        self.assertEqual(cost_of((2, ((0, 1, 7),)), [[(1, 1), (0, 1)], [(0, 1), (1, 1)]]), (7, 1))

    def test_cost_at(self):
        self.assertEqual([cost_at(STAR, HALVES, at) for at in range(3)], [(6, 1), (6, 1), (3, 1)])
        thirds = HALVES[:3] + [[(2, 3), (0, 1), (1, 3)]]
        self.assertEqual([cost_at(STAR, thirds, at) for at in range(3)], [(19, 3), (4, 1), (5, 1)])
        self.assertEqual(cost_at(STAR, tuples(thirds), 0), (19, 3))

    def test_no_ties(self):
        self.assertEqual(cost_of((4, ()), HALVES), (0, 1))
        self.assertEqual(cost_at((4, ()), HALVES, 1), (0, 1))

    def test_nothing_differs(self):
        pieces = (5, ((0, 3, 2), (1, 4, 2)))
        shares = [[(1, 1), (0, 1)], [(0, 1), (1, 1)], [(1, 2), (1, 2)], [(1, 1), (0, 1)], [(0, 1), (1, 1)]]
        self.assertEqual(cost_of(pieces, shares), (0, 1))

    def test_by_words(self):
        dice = Dice(53)
        for web, posts in small_webs(54, 150):
            shares = some_shares(dice, web, posts, 12)
            self.assertTrue(is_fraction_by_words(cost_of(web, shares)))
            self.assertEqual(cost_of(web, shares), told_fraction(cost_by_words(web, shares)))
            costs = [cost_at(web, shares, at) for at in range(len(posts))]
            self.assertEqual(costs, [told_fraction(at_by_words(web, shares, at)) for at in range(len(posts))])
            self.assertEqual(sum(Fraction(*cost) for cost in costs), 2 * cost_by_words(web, shares))

    def test_owners_shares_cost_what_their_cut_weighs(self):
        for web, posts in small_webs(55, 20, 5):
            for owners in all_owners(web, posts):
                self.assertEqual(cost_of(web, shares_by(posts, owners)), (weight_of(web, cut_by(web, owners)), 1))

    def test_great_in_little_time(self):
        begun = time.perf_counter()
        dice = Dice(56)
        for seed in range(57, 60):
            web = great_web(seed)
            shares = some_shares(dice, web, GREAT_POSTS, 10 ** 6 - 1)
            self.assertIs(is_shares(web, GREAT_POSTS, shares), True)
            self.assertEqual(cost_of(web, shares), told_fraction(cost_by_words(web, shares)))
            self.assertEqual(cost_at(web, shares, 3), told_fraction(at_by_words(web, shares, 3)))
        self.assertLess(time.perf_counter() - begun, 30)

    def test_asked_fairly(self):
        asked_fairly(self, cost_of, STAR, [list(row) for row in HALVES])
        asked_fairly(self, cost_at, STAR, [list(row) for row in HALVES], 1)


class Made(unittest.TestCase):
    def test_shares_by(self):
        self.assertEqual(shares_by([0, 2], (0, 2, 2)), [[(1, 1), (0, 1)], [(0, 1), (1, 1)], [(0, 1), (1, 1)]])
        self.assertEqual(shares_by((0, 1), (0, 1)), [[(1, 1), (0, 1)], [(0, 1), (1, 1)]])

    def test_shares_by_all_owners(self):
        for web, posts in small_webs(61, 20, 5):
            for owners in all_owners(web, posts):
                told = shares_by(posts, owners)
                self.assertTrue(is_shares_by_words(web, posts, told))
                self.assertEqual([posts[row.index((1, 1))] for row in told], list(owners))

    def test_even_shares(self):
        self.assertEqual(even_shares(STAR, [0, 1, 2]), HALVES[:3] + [[(1, 3), (1, 3), (1, 3)]])
        self.assertEqual(even_shares(STAR, (1, 3)), [
            [(1, 2), (1, 2)], [(1, 1), (0, 1)], [(1, 2), (1, 2)], [(0, 1), (1, 1)],
        ])
        self.assertEqual(even_shares((2, ()), [0, 1]), [[(1, 1), (0, 1)], [(0, 1), (1, 1)]])

    def test_even_shares_by_words(self):
        for web, posts in small_webs(62, 60):
            told = even_shares(web, posts)
            self.assertTrue(is_shares_by_words(web, posts, told))
            for place in range(web[0]):
                if place not in posts:
                    self.assertEqual(told[place], [(1, len(posts))] * len(posts))

    def test_mixed(self):
        one, other = shares_by([0, 1], (0, 1, 0)), [[(1, 1), (0, 1)], [(0, 1), (1, 1)], [(1, 3), (2, 3)]]
        self.assertEqual(mixed(one, other, (1, 4)), other[:2] + [[(1, 2), (1, 2)]])
        self.assertEqual(mixed(tuples(one), tuples(other), (3, 4)), other[:2] + [[(5, 6), (1, 6)]])

    def test_mixed_by_a_part_of_0_and_of_1(self):
        dice = Dice(63)
        for web, posts in small_webs(64, 30):
            one, other = some_shares(dice, web, posts, 9), some_shares(dice, web, posts, 9)
            self.assertEqual(mixed(one, other, (1, 1)), one)
            self.assertEqual(mixed(one, other, (0, 1)), other)

    def test_mixed_by_words(self):
        dice = Dice(65)
        for web, posts in small_webs(66, 100):
            one, other = some_shares(dice, web, posts, 9), some_shares(dice, web, posts, 14)
            below = 1 + dice.below(9)
            part = told_fraction(Fraction(dice.below(below + 1), below))
            told = mixed(one, other, part)
            self.assertTrue(is_shares_by_words(web, posts, told))
            for row, here, there in zip(told, one, other):
                wished = [
                    Fraction(*part) * Fraction(*x) + (1 - Fraction(*part)) * Fraction(*y) for x, y in zip(here, there)
                ]
                self.assertEqual(row, [told_fraction(share) for share in wished])
            most = Fraction(*part) * cost_by_words(web, one) + (1 - Fraction(*part)) * cost_by_words(web, other)
            self.assertLessEqual(Fraction(*cost_of(web, told)), most)

    def test_what_was_told_may_be_handed_in_again(self):
        web = great_web(67)
        dice = Dice(68)
        told = some_shares(dice, web, GREAT_POSTS, 10 ** 6 - 1)
        for part in (999998, 999999), (1, 999983), (3, 7):
            told = mixed(told, some_shares(dice, web, GREAT_POSTS, 10 ** 6 - 1), part)
            self.assertIs(is_shares(web, GREAT_POSTS, told), True)
            self.assertEqual(cost_of(web, told), told_fraction(cost_by_words(web, told)))

    def test_asked_fairly(self):
        asked_fairly(self, shares_by, [0, 2], (0, 2, 2, 2))
        asked_fairly(self, even_shares, (5, ((0, 1, 1),)), [1, 3])
        asked_fairly(self, mixed, [list(row) for row in HALVES], even_shares(STAR, [0, 1, 2]), (1, 1))
        asked_fairly(self, mixed, [list(row) for row in HALVES], [list(row) for row in HALVES], (0, 1))


if __name__ == "__main__":
    unittest.main()
