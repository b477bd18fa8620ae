"""[18], with [1], [2] and [3] as far as they speak of it: pairs parted on trees, and the checker."""

import time
import unittest
from unittest import mock

from partedweb.pairs import least_for_pairs, pairs_of
from partedweb.treepairs import pairs_on_tree, shows_on_tree_pairs
from partedweb.webs import weight_of
from tests.helpers import (
    Dice, all_cuts, asked_fairly, bent, exchanged, is_cut_by_words, nested, odd_things, parts_pairs_by_words, some_pairs,
    together,
)

ROW = (5, ((0, 1, 4), (1, 2, 2), (2, 3, 6), (3, 4, 3)))
STAR = (5, ((0, 1, 4), (0, 2, 3), (0, 3, 2), (0, 4, 1)))
EVEN_STAR = (4, ((0, 1, 1), (0, 2, 1), (0, 3, 1)))
TRIANGLE = [(1, 2), (1, 3), (2, 3)]


def along_by_words(web, pair):
    """The ties of the way between two places of a tree: those without which they don't hang together."""
    return [tie for tie in web[1] if pair[1] not in together(web, [tie[:2]])[pair[0]]]


def is_so_by_words(web, pairs, told):
    """Whether told is what shows_on_tree_pairs is to take."""
    if told.__class__ is not tuple or len(told) != 3 or told[0].__class__ is not int:
        return False
    weight, cut, amounts = told
    if not is_cut_by_words(web, cut) or not parts_pairs_by_words(web, pairs, cut) or weight != weight_of(web, cut):
        return False
    if amounts.__class__ not in (list, tuple) or [part.__class__ for part in amounts] != [int] * len(pairs):
        return False
    loads = {tie: 0 for tie in web[1]}
    for pair, amount in zip(pairs, amounts):
        if amount < 0:
            return False
        for tie in along_by_words(web, pair):
            loads[tie] += amount
    return all(loads[tie] <= tie[2] for tie in loads) and weight <= 2 * sum(amounts)


def some_trees(seed, rounds, most=8):
    """Trees with pairs in any order, small enough that all cuts can be gone through."""
    dice = Dice(seed)
    for _ in range(rounds):
        web = dice.tree(1 + dice.below(most), 1 + dice.below(7))
        yield web, some_pairs(dice, web[0], dice.below(7))


def great_trees(seed):
    dice = Dice(seed)
    row = (30, tuple((place, place + 1, 10 ** 9 - place) for place in range(29)))
    star = (30, tuple((0, place, 10 ** 9 - place) for place in range(1, 30)))
    even = (30, tuple((place // 2, place, 7) for place in range(1, 30)))
    return [row, star, even] + [dice.tree(30, 10 ** 9) for _ in range(15)]


class PairsOnTree(unittest.TestCase):
    def test_one_pair_is_parted_at_its_lightest_tie(self):
        self.assertEqual(pairs_on_tree(ROW, [(0, 4)]), (2, [(1, 2)], [2]))
        self.assertEqual(pairs_on_tree(ROW, [(2, 4)]), (3, [(3, 4)], [3]))
        self.assertEqual(pairs_on_tree(STAR, ((1, 3),)), (2, [(0, 3)], [2]))
        self.assertEqual(pairs_on_tree((2, ((0, 1, 10 ** 9),)), [(0, 1)]), (10 ** 9, [(0, 1)], [10 ** 9]))

    def test_no_pairs(self):
        for web in ((1, ()), ROW, STAR):
            self.assertEqual(pairs_on_tree(web, []), (0, [], []))
            self.assertIs(shows_on_tree_pairs(web, [], (0, [], [])), True)

    def test_pairs_on_one_way(self):
        weight, cut, amounts = pairs_on_tree(ROW, [(0, 4), (1, 3), (1, 2)])
        self.assertEqual((weight, cut, sum(amounts)), (2, [(1, 2)], 2))

    def test_pairs_that_share_ties(self):
        weight, cut, amounts = told = pairs_on_tree(EVEN_STAR, TRIANGLE)
        self.assertEqual((weight, len(cut), sum(amounts)), (2, 2, 1))
        self.assertIs(shows_on_tree_pairs(EVEN_STAR, TRIANGLE, told), True)

    def test_pairs_that_share_nothing(self):
        weight, cut, amounts = pairs_on_tree(ROW, [(3, 4), (0, 1), (1, 2)])
        self.assertEqual((weight, cut, amounts), (9, [(0, 1), (1, 2), (3, 4)], [3, 4, 2]))

    def test_kinds(self):
        told = pairs_on_tree(STAR, ((1, 2), (2, 4)))
        self.assertEqual([told.__class__] + [part.__class__ for part in told], [tuple, int, list, list])
        self.assertEqual({part.__class__ for part in told[1]}, {tuple})

    def test_by_all_cuts(self):
        for web, pairs in some_trees(501, 200):
            weight, cut, amounts = told = pairs_on_tree(web, pairs)
            self.assertTrue(is_so_by_words(web, pairs, told), (web, pairs, told))
            least = min(weight_of(web, one) for one in all_cuts(web) if parts_pairs_by_words(web, pairs, one))
            self.assertLessEqual(weight, 2 * least)
            self.assertLessEqual(sum(amounts), least)

    def test_pairs_that_hang_on_last_come_first(self):
        """Filled in another order, or thinned out from the front, these weigh more than twice what flows."""
        for web, pairs in some_trees(502, 400, 12):
            self.assertTrue(is_so_by_words(web, pairs, pairs_on_tree(web, pairs)), (web, pairs))

    def test_the_lightest_cut_agrees(self):
        for web, pairs in some_trees(503, 80, 10):
            if len(pairs) <= 5:
                least = least_for_pairs(web, pairs)[0]
                weight, _cut, amounts = pairs_on_tree(web, pairs)
                self.assertLessEqual(sum(amounts), least)
                self.assertLessEqual(least, weight)
                self.assertLessEqual(weight, 2 * least)

    def test_great_in_little_time(self):
        begun = time.perf_counter()
        dice = Dice(504)
        for web in great_trees(505):
            pairs = some_pairs(dice, 30, 12)
            told = pairs_on_tree(web, pairs)
            self.assertIs(shows_on_tree_pairs(web, pairs, told), True)
            self.assertTrue(is_so_by_words(web, pairs, told))
        self.assertLess(time.perf_counter() - begun, 30)

    def test_more_pairs_than_the_bounds_tell(self):
        for web in great_trees(506)[:5]:
            pairs = pairs_of([range(0, 30, 4)])
            self.assertTrue(is_so_by_words(web, pairs, pairs_on_tree(web, pairs)))

    def test_asked_fairly(self):
        asked_fairly(self, pairs_on_tree, STAR, [(1, 2), (2, 4)])
        asked_fairly(self, pairs_on_tree, ROW, [(0, 4), (1, 2)])
        asked_fairly(self, pairs_on_tree, (1, ()), [])


class ShowsOnTreePairs(unittest.TestCase):
    def shown(self, wished, web, pairs, told):
        self.assertIs(shows_on_tree_pairs(web, pairs, told), wished, (web, pairs, told))

    def test_what_is_told(self):
        for web, pairs in some_trees(511, 150):
            weight, cut, amounts = told = pairs_on_tree(web, pairs)
            self.shown(True, web, pairs, told)
            self.shown(True, web, tuple(pairs), (weight, tuple(cut), tuple(amounts)))
            self.shown(False, web, pairs, list(told))
            self.shown(False, web, pairs, exchanged(told))
            for bad in (weight + 1, weight - 1, None, str(weight)):
                self.shown(False, web, pairs, (bad, cut, amounts))

    def test_any_cut_of_little_weight(self):
        for web, pairs in some_trees(512, 60, 6):
            amounts = pairs_on_tree(web, pairs)[2]
            for cut in all_cuts(web):
                weight = weight_of(web, cut)
                wished = parts_pairs_by_words(web, pairs, cut) and weight <= 2 * sum(amounts)
                self.shown(wished, web, pairs, (weight, cut, amounts))

    def test_just_two_times_the_amounts(self):
        for amounts in ([1, 0, 0], [0, 1, 0], [0, 0, 1]):
            self.shown(True, EVEN_STAR, TRIANGLE, (2, [(0, 1), (0, 2)], amounts))
            self.shown(False, EVEN_STAR, TRIANGLE, (3, [(0, 1), (0, 2), (0, 3)], amounts))
        self.shown(False, EVEN_STAR, TRIANGLE, (2, [(0, 1), (0, 2)], [0, 0, 0]))
        self.shown(True, (2, ((0, 1, 4),)), [(0, 1)], (4, [(0, 1)], [2]))
        self.shown(False, (2, ((0, 1, 4),)), [(0, 1)], (4, [(0, 1)], [1]))

    def test_just_as_much_as_a_tie_weighs(self):
        pairs = [(0, 2), (1, 3), (2, 4)]
        self.shown(True, ROW, pairs, (5, [(1, 2), (3, 4)], [1, 1, 3]))
        self.shown(True, ROW, pairs, (5, [(1, 2), (3, 4)], [2, 0, 3]))
        self.shown(False, ROW, pairs, (5, [(1, 2), (3, 4)], [2, 1, 3]))
        self.shown(False, ROW, pairs, (5, [(1, 2), (3, 4)], [1, 1, 4]))
        self.shown(False, ROW, pairs, (5, [(1, 2), (3, 4)], [3, -1, 3]))
        self.shown(False, ROW, pairs, (5, [(1, 2), (3, 4)], [-1, 1, 3]))

    def test_amounts(self):
        pairs = [(0, 2), (2, 4)]
        self.shown(True, ROW, pairs, (5, [(1, 2), (3, 4)], [2, 3]))
        for amounts in (
            [2], [2, 3, 0], [], [3, 2], [2, None], [2, "3"], [2, [3]], [2, (3,)], [2, True], None, 5, "23", (2, 3, 0), [[2, 3]],
            [2, 3, None], [(2, 3)],
        ):
            self.shown(False, ROW, pairs, (5, [(1, 2), (3, 4)], amounts))

    def test_cuts(self):
        for weight, cut in (
            (5, [(3, 4), (1, 2)]), (2, [(1, 2)]), (5, [(1, 2), (1, 2), (3, 4)]), (5, [(2, 1), (4, 3)]), (0, []), (5, None),
            (5, [[1, 2], [3, 4]]), (5, [(True, 2), (3, 4)]), (5, [(1, 2, 2), (3, 4, 3)]), (5, "x"), (5, 5), (5, [None]),
            (5, [(1, 2), (1, 4), (3, 4)]), (5, [(1, 2), ([3], 4)]), (9, [(0, 1), (1, 2), (3, 4)]),
        ):
            self.shown(weight == 9, ROW, [(0, 2), (2, 4)], (weight, cut, [2, 3]))

    def test_true_and_false_are_no_numbers(self):
        web = (2, ((0, 1, 1),))
        self.shown(True, web, [(0, 1)], (1, [(0, 1)], [1]))
        self.shown(False, web, [(0, 1)], (True, [(0, 1)], [1]))
        self.shown(False, web, [(0, 1)], (1, [(False, 1)], [1]))
        self.shown(False, web, [(0, 1)], (1, [(0, 1)], [True]))
        self.shown(False, web, [], (False, [], []))
        self.shown(False, EVEN_STAR, TRIANGLE, (2, [(0, 1), (0, 2)], [1, False, 0]))

    def test_parts_more_or_less(self):
        told = pairs_on_tree(STAR, [(1, 2), (2, 4)])
        for thing in (told[:2], told[1:], told + (0,), told + told, (told,), [told], told[::-1], ()):
            self.shown(False, STAR, [(1, 2), (2, 4)], thing)

    def test_bent_papers(self):
        for web, pairs in some_trees(513, 40, 6):
            for thing in bent(pairs_on_tree(web, pairs)):
                self.shown(is_so_by_words(web, pairs, thing), web, pairs, thing)

    def test_things_of_no_kind(self):
        for web, pairs in ((STAR, [(1, 2), (2, 4)]), ((1, ()), []), ((2, ((0, 1, 1),)), [(0, 1)])):
            for thing in odd_things():
                self.shown(is_so_by_words(web, pairs, thing), web, pairs, thing)
                for at in range(3):
                    told = list(pairs_on_tree(web, pairs))
                    told[at] = thing
                    self.shown(is_so_by_words(web, pairs, tuple(told)), web, pairs, tuple(told))
        self.shown(False, ROW, [(0, 2)], (2, [(1, 2)], [nested(38, lambda thing: [thing])]))

    def test_knows_nothing_of_how_it_is_found(self):
        told = [(web, pairs, pairs_on_tree(web, pairs)) for web, pairs in some_trees(514, 20)]
        with mock.patch("partedweb.treepairs.filled", side_effect=AssertionError):
            for web, pairs, one in told:
                self.shown(True, web, pairs, one)

    def test_asked_fairly(self):
        asked_fairly(self, shows_on_tree_pairs, STAR, [(1, 2), (2, 4)], pairs_on_tree(STAR, [(1, 2), (2, 4)]))
        asked_fairly(self, shows_on_tree_pairs, STAR, [(1, 2)], (3, [[0, 2]], [[], [3]]))


if __name__ == "__main__":
    unittest.main()
