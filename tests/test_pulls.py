"""[12], with [1], [2] and [3] as far as they speak of it: pulls, least shares, and their checker."""

import time
import unittest
from fractions import Fraction

from partedweb.leastshares import Board, least_shares
from partedweb.pulls import floor_by, shows_least_shares
from partedweb.rounding import rounded, shows_rounded
from partedweb.shares import cost_of, even_shares, is_shares, mixed, shares_by
from tests.helpers import (
    Dice, all_owners, asked_fairly, bent, cost_by_words, exchanged, great_web, is_fraction_by_words, is_shares_by_words,
    least_weight, odd_things, small_webs, some_shares, told_fraction,
)

STAR = (4, ((0, 3, 5), (1, 3, 4), (2, 3, 3)))
# Three posts, a place between each two of them: the least shares are halves, and cost less than any parting weighs.
BETWEEN = (6, ((0, 3, 2), (0, 5, 2), (1, 3, 2), (1, 4, 2), (2, 4, 2), (2, 5, 2), (3, 4, 1), (3, 5, 1), (4, 5, 1)))
POSTS = [0, 1, 2]
GREAT_POSTS = [0, 5, 10, 15, 20, 29]


def floor_by_words(web, posts, pulls):
    gives = []
    for pull in pulls:
        gives.append([
            sum(Fraction(*amount) for (a, _b, _weight), amount in zip(web[1], pull) if a == place)
            - sum(Fraction(*amount) for (_a, b, _weight), amount in zip(web[1], pull) if b == place)
            for place in range(web[0])
        ])
    floor = Fraction(0)
    for place in range(web[0]):
        here = [give[place] for give in gives]
        floor += here[posts.index(place)] if place in posts else min(here)
    return floor


def some_pulls(dice, web, posts, most):
    pulls = []
    for _post in posts:
        belows = [1 + dice.below(most) for _tie in web[1]]
        pulls.append([
            told_fraction(Fraction(dice.below(weight * below + 1), below) - Fraction(weight, 2))
            for below, (_a, _b, weight) in zip(belows, web[1])
        ])
    return pulls


def is_so_by_words(web, posts, told):
    """Whether told is what shows_least_shares is to take."""
    if told.__class__ is not tuple or len(told) != 3 or not is_fraction_by_words(told[0]):
        return False
    cost, shares, pulls = told
    if not is_shares_by_words(web, posts, shares) or told_fraction(cost_by_words(web, shares)) != cost:
        return False
    if pulls.__class__ not in (list, tuple) or len(pulls) != len(posts):
        return False
    for pull in pulls:
        if pull.__class__ not in (list, tuple) or len(pull) != len(web[1]):
            return False
        for amount, (_a, _b, weight) in zip(pull, web[1]):
            if not is_fraction_by_words(amount) or 2 * abs(Fraction(*amount)) > weight:
                return False
    return told_fraction(floor_by_words(web, posts, pulls)) == cost


def bounded_webs(seed, rounds):
    """Webs of up to 4 places beside up to 4 posts, and up to 9 ties."""
    dice = Dice(seed)
    for _ in range(rounds):
        posts = 2 + dice.below(3)
        many = posts + dice.below(5)
        web = dice.web(many, dice.below(10), (1, 3, 10, 10 ** 9)[dice.below(4)])
        yield web, dice.posts(many, posts)


def between(dice):
    """Webs like BETWEEN, whose least shares are often no row of owners'."""
    return (6, tuple((a, b, 6 * weight + dice.below(4)) for a, b, weight in BETWEEN[1]))


def thirds(dice):
    """Webs of the places whose shares of three posts are thirds, tied to the nearest: a tuple of the web and the posts."""
    places = [(one, other, 3 - one - other) for one in range(4) for other in range(4 - one)]
    ties = []
    for b, there in enumerate(places):
        for a, here in enumerate(places[:b]):
            if sum(abs(x - y) for x, y in zip(here, there)) == 2:
                outer = any(x == y == 0 for x, y in zip(here, there))
                ties.append((a, b, (36 if outer else 12) + dice.below(4)))
    return (len(places), tuple(sorted(ties))), [at for at, place in enumerate(places) if 3 in place]


class FloorBy(unittest.TestCase):
    def test_ordinary(self):
        pulls = [[(5, 2), (-2, 1), (-3, 2)], [(-5, 2), (2, 1), (-3, 2)], [(-5, 2), (-2, 1), (3, 2)]]
        self.assertEqual(floor_by(STAR, POSTS, pulls), (7, 1))
        self.assertEqual(floor_by(STAR, tuple(POSTS), tuple(tuple(pull) for pull in pulls)), (7, 1))
        self.assertEqual(floor_by((2, ((0, 1, 7),)), [0, 1], [[(7, 2)], [(-7, 2)]]), (7, 1))
        self.assertEqual(floor_by((2, ((0, 1, 7),)), [0, 1], [[(7, 3)], [(-1, 2)]]), (17, 6))

    def test_which_way_it_goes(self):
        chain = (3, ((0, 1, 4), (1, 2, 6)))
        self.assertEqual(floor_by(chain, [0, 2], [[(2, 1), (2, 1)], [(-2, 1), (-2, 1)]]), (4, 1))
        self.assertEqual(floor_by(chain, [0, 2], [[(2, 1), (3, 1)], [(-2, 1), (-3, 1)]]), (4, 1))
        self.assertEqual(floor_by(chain, [0, 1], [[(2, 1), (3, 1)], [(-2, 1), (3, 1)]]), (4, 1))
        self.assertEqual(floor_by(chain, [0, 1], [[(2, 1), (0, 1)], [(-2, 1), (0, 1)]]), (4, 1))

    def test_below_nought(self):
        self.assertEqual(floor_by((2, ((0, 1, 7),)), [0, 1], [[(-7, 2)], [(7, 2)]]), (-7, 1))
        self.assertEqual(floor_by((2, ((0, 1, 7),)), [0, 1], [[(-1, 3)], [(0, 1)]]), (-1, 3))
        self.assertEqual(floor_by((3, ((1, 2, 5),)), [0, 1], [[(0, 1)], [(-5, 2)]]), (-5, 2))

    def test_nothing_is_pulled(self):
        self.assertEqual(floor_by(STAR, POSTS, [[(0, 1)] * 3] * 3), (0, 1))
        self.assertEqual(floor_by((3, ()), [0, 2], [[], []]), (0, 1))
        self.assertEqual(floor_by((3, ()), [0, 2], ((), ())), (0, 1))

    def test_by_words(self):
        dice = Dice(101)
        for web, posts in small_webs(102, 200):
            pulls = some_pulls(dice, web, posts, 7)
            floor = floor_by(web, posts, pulls)
            self.assertTrue(is_fraction_by_words(floor))
            self.assertEqual(floor, told_fraction(floor_by_words(web, posts, pulls)))
            self.assertLessEqual(Fraction(*floor), cost_by_words(web, some_shares(dice, web, posts, 7)))
            self.assertLessEqual(Fraction(*floor), least_weight(web, posts))

    def test_great_in_little_time(self):
        begun = time.perf_counter()
        web = great_web(103)
        pulls = some_pulls(Dice(104), web, GREAT_POSTS, 900)
        self.assertEqual(floor_by(web, GREAT_POSTS, pulls), told_fraction(floor_by_words(web, GREAT_POSTS, pulls)))
        self.assertLess(time.perf_counter() - begun, 30)

    def test_asked_fairly(self):
        asked_fairly(self, floor_by, STAR, [0, 1, 2], [[(1, 2), (0, 1), (-1, 2)], [(0, 1)] * 3, [(1, 1)] * 3])


class LeastShares(unittest.TestCase):
    def test_ordinary(self):
        cost, shares, pulls = least_shares(STAR, POSTS)
        self.assertEqual(cost, (7, 1))
        self.assertEqual(shares, shares_by(POSTS, (0, 1, 2, 0)))
        self.assertEqual(floor_by(STAR, POSTS, pulls), (7, 1))

    def test_below_the_least_parting(self):
        cost, shares, pulls = told = least_shares(BETWEEN, POSTS)
        self.assertEqual(cost, (15, 2))
        self.assertEqual(shares[3:], [[(1, 2), (1, 2), (0, 1)], [(0, 1), (1, 2), (1, 2)], [(1, 2), (0, 1), (1, 2)]])
        self.assertEqual(least_weight(BETWEEN, POSTS), 8)
        self.assertTrue(is_so_by_words(BETWEEN, POSTS, told))
        self.assertEqual(rounded(BETWEEN, POSTS, shares)[0], 8)

    def test_often_below_the_least_parting(self):
        dice = Dice(105)
        below = 0
        for _ in range(60):
            web = between(dice)
            told = least_shares(web, POSTS)
            self.assertTrue(is_so_by_words(web, POSTS, told), web)
            self.assertLessEqual(Fraction(*told[0]), least_weight(web, POSTS))
            below += Fraction(*told[0]) < least_weight(web, POSTS)
        self.assertGreater(below, 9)

    def test_two_posts_are_parted_for_the_least_cost(self):
        for web, posts in bounded_webs(106, 60):
            self.assertEqual(least_shares(web, posts[:2])[0], (least_weight(web, posts[:2]), 1))

    def test_each_place_is_a_post(self):
        web = (3, ((0, 1, 1), (0, 2, 3), (1, 2, 4)))
        cost, shares, pulls = told = least_shares(web, POSTS)
        self.assertEqual((cost, shares), ((8, 1), shares_by(POSTS, (0, 1, 2))))
        self.assertTrue(is_so_by_words(web, POSTS, told))

    def test_no_ties_and_several_pieces(self):
        cost, shares, pulls = told = least_shares((5, ()), [1, 3])
        self.assertEqual((cost, pulls), ((0, 1), [[], []]))
        self.assertTrue(is_so_by_words((5, ()), [1, 3], told))
        web = (7, ((0, 1, 2), (2, 3, 4), (3, 4, 1), (5, 6, 9)))
        told = least_shares(web, [0, 2, 4])
        self.assertEqual(told[0], (1, 1))
        self.assertTrue(is_so_by_words(web, [0, 2, 4], told))

    def test_kinds(self):
        cost, shares, pulls = told = least_shares(STAR, tuple(POSTS))
        self.assertEqual([told.__class__, cost.__class__, shares.__class__, pulls.__class__], [tuple, tuple, list, list])
        self.assertEqual({row.__class__ for row in shares + pulls}, {list})
        self.assertTrue(all(is_fraction_by_words(part) for row in shares + pulls for part in row))

    def test_small_webs(self):
        for web, posts in bounded_webs(107, 250):
            told = least_shares(web, posts)
            self.assertTrue(is_so_by_words(web, posts, told), (web, posts, told))
            self.assertIs(is_shares(web, posts, told[1]), True)
            self.assertIs(shows_least_shares(web, posts, told), True)
            self.assertLessEqual(Fraction(*told[0]), least_weight(web, posts))
            for owners in list(all_owners(web, posts))[::7]:
                self.assertLessEqual(Fraction(*told[0]), Fraction(*cost_of(web, shares_by(posts, owners))))
            self.assertLessEqual(Fraction(*told[0]), Fraction(*cost_of(web, even_shares(web, posts))))

    def test_rounded_they_are_within_the_bound_of_the_least(self):
        for web, posts in list(bounded_webs(108, 80)) + [(between(Dice(seed)), POSTS) for seed in range(40)]:
            _cost, shares, _pulls = least_shares(web, posts)
            told = rounded(web, posts, shares)
            self.assertIs(shows_rounded(web, posts, shares, told), True)
            self.assertLessEqual(2 * len(posts) * told[0], (3 * len(posts) - 2) * least_weight(web, posts))

    def test_in_little_time(self):
        begun = time.perf_counter()
        for seed in range(109, 140):
            dice = Dice(seed)
            web, posts = dice.web(8, 9, 10 ** 9), dice.posts(8, 4)
            self.assertTrue(is_so_by_words(web, posts, least_shares(web, posts)))
        self.assertLess(time.perf_counter() - begun, 30)

    def test_webs_that_take_many_steps(self):
        for web, posts in (
            ((5, ((0, 1, 1), (0, 2, 1), (0, 3, 1), (0, 4, 1), (1, 3, 1), (2, 3, 1), (2, 4, 1), (3, 4, 1))), [1, 2, 3]),
            ((8, tuple(sorted([
                (0, 7, 3), (1, 4, 4), (1, 5, 1), (2, 4, 4), (2, 5, 1), (2, 7, 2), (3, 4, 1), (3, 6, 3), (5, 6, 3),
            ]))), [0, 1, 2, 3]),
            ((8, tuple(sorted([
                (0, 4, 2), (0, 6, 4), (2, 5, 2), (2, 7, 3), (3, 6, 3), (3, 7, 3), (5, 6, 1), (5, 7, 4), (6, 7, 2),
            ]))), [0, 1, 2, 3]),
        ):
            self.assertTrue(is_so_by_words(web, posts, least_shares(web, posts)))

    def test_somewhat_beyond_the_bounds(self):
        for seed in range(140, 146):
            dice = Dice(seed)
            web, posts = dice.web(11, 18, 10 ** 9), dice.posts(11, 5)
            self.assertTrue(is_so_by_words(web, posts, least_shares(web, posts)))
            for many in range(12):
                web, posts = dice.web(8, 14, (1, 3)[many % 2]), dice.posts(8, 4)
                self.assertTrue(is_so_by_words(web, posts, least_shares(web, posts)))
            web, posts = thirds(dice)
            self.assertTrue(is_so_by_words(web, posts, least_shares(web, posts)))

    def test_a_board_climbs_to_the_bounds_of_its_followers(self):
        board = Board([0, -5], [None, 5], [0], [1], [[1], [1]])
        self.assertIs(board.climb(), True)
        self.assertEqual((board.top_of(-1), board.below, board.all_tops()), (5, 1, {0: 5, 1: 5}))
        self.assertIs(board.climb(), False)
        board = Board([0, -5], [None, 5], [0], [1], [[-2], [3]])
        self.assertIs(board.climb(), True)
        self.assertEqual((board.top_of(-1), board.below, board.all_tops()), (15, 2, {0: 5, 1: -10}))
        self.assertIs(board.climb(), False)

    def test_asked_fairly(self):
        asked_fairly(self, least_shares, BETWEEN, [0, 1, 2])
        asked_fairly(self, least_shares, (5, ()), [1, 3])
        asked_fairly(self, least_shares, (2, ((0, 1, 3),)), [0, 1])


class ShowsLeastShares(unittest.TestCase):
    def shown(self, wished, web, posts, told):
        self.assertIs(shows_least_shares(web, posts, told), wished, (web, posts, told))

    def test_what_is_told(self):
        for web, posts in bounded_webs(147, 100):
            cost, shares, pulls = told = least_shares(web, posts)
            self.shown(True, web, posts, told)
            rows = tuple(tuple(row) for row in shares), tuple(tuple(row) for row in pulls)
            self.shown(True, web, tuple(posts), (cost,) + rows)
            self.shown(False, web, posts, list(told))
            self.shown(False, web, posts, (list(cost), shares, pulls))
            self.shown(False, web, posts, exchanged(told))
            for bad in ((cost[0] + 1, 1), (cost[0] - 1, 1), (2 * cost[0], 2), cost[0], None, cost + (1,)):
                self.shown(False, web, posts, (bad, shares, pulls))

    def test_any_least_shares(self):
        even = (4, ((0, 3, 2), (1, 3, 2), (2, 3, 2)))
        cost, _shares, pulls = least_shares(even, POSTS)
        self.assertEqual(cost, (4, 1))
        own = [shares_by(POSTS, (0, 1, 2, at)) for at in range(3)]
        for shares in own + [even_shares(even, POSTS), mixed(own[0], own[1], (2, 7))]:
            self.shown(True, even, POSTS, (cost, shares, pulls))

    def test_shares_and_pulls_that_do_not_meet(self):
        cost, shares, pulls = least_shares(STAR, POSTS)
        self.shown(False, STAR, POSTS, ((8, 1), shares_by(POSTS, (0, 1, 2, 1)), pulls))
        self.shown(False, STAR, POSTS, ((7, 1), shares_by(POSTS, (0, 1, 2, 1)), pulls))
        nothing = [[(0, 1)] * 3] * 3
        self.shown(False, STAR, POSTS, (cost, shares, nothing))
        self.shown(False, STAR, POSTS, ((0, 1), shares, nothing))
        own = shares_by([0, 2], (0, 0, 2))
        self.shown(True, (3, ((0, 1, 2),)), [0, 2], ((0, 1), own, [[(0, 1)], [(-1, 3)]]))
        self.shown(False, (3, ((0, 1, 2),)), [0, 2], ((0, 1), own, [[(0, 1)], [(1, 3)]]))

    def test_pulls_of_more_than_half_the_weight(self):
        web = (2, ((0, 1, 6),))
        own = shares_by([0, 1], (0, 1))
        self.shown(True, web, [0, 1], ((6, 1), own, [[(3, 1)], [(-3, 1)]]))
        self.shown(False, web, [0, 1], ((6, 1), own, [[(4, 1)], [(-2, 1)]]))
        self.shown(False, web, [0, 1], ((6, 1), own, [[(2, 1)], [(-4, 1)]]))
        self.shown(False, web, [0, 1], ((6, 1), own, [[(31, 10)], [(-29, 10)]]))
        self.shown(True, (2, ((0, 1, 7),)), [0, 1], ((7, 1), own, [[(7, 2)], [(-7, 2)]]))

    def test_costs(self):
        web = (2, ((0, 1, 1),))
        own = shares_by([0, 1], (0, 1))
        for cost, wished in (
            ((1, 1), True), ((True, 1), False), ((1, True), False), ((2, 2), False), ((-1, -1), False), ([1, 1], False),
            (1, False), (True, False), ((1,), False), ((1, 1, 1), False), ((1, 0), False), (None, False), ("1", False),
        ):
            self.shown(wished, web, [0, 1], (cost, own, [[(1, 2)], [(-1, 2)]]))

    def test_pulls(self):
        web = (2, ((0, 1, 1),))
        own = shares_by([0, 1], (0, 1))
        for pulls, wished in (
            ([[(1, 2)], [(-1, 2)]], True), ((((1, 2),), ((-1, 2),)), True), ([[(2, 4)], [(-1, 2)]], False),
            ([[(1, 2)], [(1, -2)]], False), ([[(1, 2)]], False), ([[(1, 2)], [(-1, 2)], [(0, 1)]], False),
            ([[(1, 2), (0, 1)], [(-1, 2)]], False), ([[(1, 2)], []], False), ([[(True, 2)], [(-1, 2)]], False),
            ([[(1, 2)], [[-1, 2]]], False), ([[(1, 2, 1)], [(-1, 2)]], False), ([(1, 2), (-1, 2)], False), ([], False),
            ([[(1, 2)], [None]], False), ([None, None], False), (None, False), ("", False), ([[(1, 2)], "x"], False),
            ([[(-1, 2)], [(1, 2)]], False), ([[(1, 2)], [(-1, 0)]], False), ([["1"], ["2"]], False),
        ):
            self.shown(wished, web, [0, 1], ((1, 1), own, pulls))

    def test_bent_papers(self):
        webs = list(bounded_webs(148, 5)) + [((3, ((0, 1, 2), (1, 2, 3))), [0, 2]), ((4, ((0, 3, 1), (1, 3, 1))), POSTS)]
        for web, posts in webs:
            told = least_shares(web, posts)
            for thing in bent(told):
                self.shown(is_so_by_words(web, posts, thing), web, posts, thing)

    def test_things_of_no_kind(self):
        for web, posts in ((STAR, POSTS), ((2, ()), [0, 1])):
            for thing in odd_things():
                self.shown(False, web, posts, thing)
                for at in range(3):
                    told = list(least_shares(web, posts))
                    told[at] = thing
                    self.shown(is_so_by_words(web, posts, tuple(told)), web, posts, tuple(told))

    def test_asked_fairly(self):
        asked_fairly(self, shows_least_shares, BETWEEN, [0, 1, 2], least_shares(BETWEEN, POSTS))
        asked_fairly(self, shows_least_shares, BETWEEN, [0, 1, 2], ((1, 2), [[]], [[[]]]))


if __name__ == "__main__":
    unittest.main()
