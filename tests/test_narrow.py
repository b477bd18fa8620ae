"""[14], with [1], [2] and [3] as far as they speak of it: orders, narrow webs and flat webs."""

import time
import unittest
from itertools import permutations

from partedweb.narrow import flat, least_narrow, row_order, width_of
from partedweb.partings import cut_by, is_parting
from partedweb.singles import by_singles
from partedweb.trees import least_on_tree
from partedweb.webs import is_web, weight_of
from tests.helpers import Dice, asked_fairly, rows_by_weight, small_webs

CHAIN = (4, ((0, 1, 5), (1, 2, 2), (2, 3, 7)))
STAR = (5, ((0, 1, 4), (0, 2, 3), (0, 3, 2), (0, 4, 1)))
RING = (4, ((0, 1, 1), (0, 3, 1), (1, 2, 1), (2, 3, 1)))


def width_by_words(web, order):
    widths = []
    for at in range(len(order)):
        later = set(order[at + 1:])
        beside = [{a, b} for a, b, _weight in web[1]]
        widths.append(len([place for place in order[:at + 1] if any(place in two and two & later for two in beside)]))
    return max(widths)


def flat_by_words(wide, high, weights):
    pairs = []
    for y in range(high):
        for x in range(wide):
            pairs += [(x + wide * y, x + 1 + wide * y)] if x + 1 < wide else []
            pairs += [(x + wide * y, x + wide * (y + 1))] if y + 1 < high else []
    return (wide * high, tuple((a, b, weight) for (a, b), weight in zip(sorted(pairs), weights)))


def many_ties(wide, high):
    return (wide - 1) * high + wide * (high - 1)


class WidthOf(unittest.TestCase):
    def test_ordinary(self):
        self.assertEqual(width_of(CHAIN, [0, 1, 2, 3]), 1)
        self.assertEqual(width_of(CHAIN, [0, 2, 1, 3]), 2)
        self.assertEqual(width_of(CHAIN, (1, 3, 0, 2)), 2)
        self.assertEqual(width_of(RING, [0, 1, 2, 3]), 2)

    def test_nothing_is_open(self):
        self.assertEqual(width_of((1, ()), [0]), 0)
        self.assertEqual(width_of((4, ()), [2, 0, 3, 1]), 0)

    def test_many_are_open(self):
        self.assertEqual(width_of(STAR, [0, 1, 2, 3, 4]), 1)
        self.assertEqual(width_of(STAR, [1, 2, 3, 4, 0]), 4)
        self.assertEqual(width_of(STAR, [1, 2, 0, 3, 4]), 2)
        full = (5, tuple((a, b, 1) for a in range(5) for b in range(a + 1, 5)))
        for order in permutations(range(5)):
            self.assertEqual(width_of(full, list(order)), 4)

    def test_by_words(self):
        dice = Dice(211)
        for web, _posts in small_webs(212, 200, 8):
            order = dice.some(range(web[0]), web[0])
            self.assertEqual(width_of(web, order), width_by_words(web, order))

    def test_asked_fairly(self):
        asked_fairly(self, width_of, CHAIN, [2, 0, 3, 1])


class LeastNarrow(unittest.TestCase):
    def test_ordinary(self):
        self.assertEqual(least_narrow(CHAIN, [0, 3], [0, 1, 2, 3]), (2, (0, 0, 3, 3), 1))
        self.assertEqual(least_narrow(CHAIN, (0, 3), (2, 0, 3, 1)), (2, (0, 0, 3, 3), 1))
        self.assertEqual(least_narrow(STAR, [1, 2, 3], [0, 1, 2, 3, 4]), (5, (1, 1, 2, 3, 1), 1))

    def test_of_several_rows_the_first_and_how_many(self):
        for order in permutations(range(4)):
            self.assertEqual(least_narrow(RING, [0, 2], list(order)), (2, (0, 0, 2, 0), 4))
            self.assertEqual(least_narrow(RING, [1, 3], list(order)), (2, (1, 1, 1, 3), 4))
        self.assertEqual(least_narrow((3, ((0, 1, 2), (1, 2, 2))), [0, 2], [1, 0, 2]), (2, (0, 0, 2), 2))

    def test_nothing_is_tied(self):
        for order in permutations(range(4)):
            self.assertEqual(least_narrow((4, ()), [1, 2], order), (0, (1, 1, 2, 1), 4))
        self.assertEqual(least_narrow((5, ((0, 3, 4),)), [0, 1, 2], [4, 3, 2, 1, 0]), (0, (0, 1, 2, 0, 0), 3))

    def test_each_place_is_a_post(self):
        self.assertEqual(least_narrow(CHAIN, [0, 1, 2, 3], [3, 1, 0, 2]), (14, (0, 1, 2, 3), 1))

    def test_kinds(self):
        told = least_narrow(RING, [0, 2], [0, 1, 2, 3])
        self.assertEqual([told.__class__] + [part.__class__ for part in told], [tuple, int, tuple, int])

    def test_by_all_rows_of_owners(self):
        dice = Dice(213)
        for web, posts in small_webs(214, 300, 7):
            rows = rows_by_weight(web, posts)
            least = min(rows)
            order = dice.some(range(web[0]), web[0])
            self.assertEqual(least_narrow(web, posts, order), (least, min(rows[least]), len(rows[least])))

    def test_the_order_is_all_the_same(self):
        dice = Dice(215)
        for web, posts in small_webs(216, 40, 7):
            told = least_narrow(web, posts, list(range(web[0])))
            for _ in range(4):
                self.assertEqual(least_narrow(web, posts, dice.some(range(web[0]), web[0])), told)

    def test_great_in_little_time(self):
        begun = time.perf_counter()
        dice = Dice(217)
        for posts, wide, high in ((2, 10, 3), (3, 6, 5), (4, 5, 6), (5, 4, 7), (6, 3, 10), (6, 2, 15), (6, 1, 30)):
            web = flat(wide, high, [1 + dice.below(10 ** 9) for _ in range(many_ties(wide, high))])
            order = row_order(wide, high)
            self.assertLessEqual(posts ** width_of(web, order), 1100)
            told = dice.posts(wide * high, posts)
            weight, owners, many = least_narrow(web, told, order)
            self.assertEqual(least_narrow(web, told, order[::-1]), (weight, owners, many))
            self.assertEqual([owners[post] for post in told], told)
            self.assertEqual(weight_of(web, cut_by(web, owners)), weight)
            self.assertIs(is_parting(web, told, cut_by(web, owners)), True)
            singly = by_singles(web, told)[0]
            self.assertLessEqual(weight, singly)
            self.assertLessEqual(posts * singly, (2 * posts - 2) * weight)
            if posts == 2:
                self.assertEqual(weight, singly)
        self.assertLess(time.perf_counter() - begun, 60)

    def test_ninety_ties_in_little_time(self):
        begun = time.perf_counter()
        ties = [(a, a + step, 1 + a % 3) for a in range(30) for step in (1, 2, 3, 4) if a + step < 30][:90]
        web = (30, tuple(ties))
        weight, owners, many = least_narrow(web, [0, 10, 19, 29], list(range(30)))
        self.assertEqual(weight_of(web, cut_by(web, owners)), weight)
        self.assertEqual(least_narrow(web, [0, 10, 19, 29], list(range(29, -1, -1))), (weight, owners, many))
        self.assertLess(time.perf_counter() - begun, 60)

    def test_how_many_may_be_great(self):
        self.assertEqual(least_narrow((30, ()), [0, 1, 2, 3, 4, 5], list(range(30)))[2], 6 ** 24)
        even = (30, tuple((place, place + 1, 3) for place in range(29)))
        self.assertEqual(least_narrow(even, [0, 29], list(range(30))), (3, (0,) * 29 + (29,), 29))

    def test_trees_agree(self):
        dice = Dice(218)
        for _ in range(20):
            web, posts = dice.tree(30, 10 ** 9), dice.posts(30, 3)
            # Along a tree from place 0 on, branch by branch, few places are open.
            order, waiting = [], [0]
            while waiting:
                place = waiting.pop()
                order.append(place)
                waiting += [a + b - place for a, b, _weight in web[1] if place in (a, b) and a + b - place not in order]
            if 3 ** width_of(web, order) <= 1100:
                self.assertEqual(least_narrow(web, posts, order)[0], least_on_tree(web, posts)[0])

    def test_asked_fairly(self):
        asked_fairly(self, least_narrow, RING, [0, 2], [3, 0, 2, 1])


class Flat(unittest.TestCase):
    def test_ordinary(self):
        self.assertEqual(flat(2, 2, [1, 2, 3, 4]), (4, ((0, 1, 1), (0, 2, 2), (1, 3, 3), (2, 3, 4))))
        self.assertEqual(flat(3, 2, (1, 2, 3, 4, 5, 6, 7)), (6, (
            (0, 1, 1), (0, 3, 2), (1, 2, 3), (1, 4, 4), (2, 5, 5), (3, 4, 6), (4, 5, 7),
        )))
        self.assertEqual(flat(2, 3, [1, 2, 3, 4, 5, 6, 7]), (6, (
            (0, 1, 1), (0, 2, 2), (1, 3, 3), (2, 3, 4), (2, 4, 5), (3, 5, 6), (4, 5, 7),
        )))

    def test_one_row_and_one_column(self):
        self.assertEqual(flat(4, 1, [3, 2, 1]), (4, ((0, 1, 3), (1, 2, 2), (2, 3, 1))))
        self.assertEqual(flat(1, 4, [3, 2, 1]), (4, ((0, 1, 3), (1, 2, 2), (2, 3, 1))))
        self.assertEqual(flat(1, 1, []), (1, ()))

    def test_by_words(self):
        for wide in range(1, 7):
            for high in range(1, 6):
                weights = [at + 1 for at in range(many_ties(wide, high))]
                web = flat(wide, high, weights)
                self.assertEqual(web, flat_by_words(wide, high, weights))
                self.assertEqual(len(web[1]), len(weights))
                self.assertIs(is_web(web), True)

    def test_row_order(self):
        self.assertEqual(row_order(3, 2), [0, 1, 2, 3, 4, 5])
        self.assertEqual(row_order(1, 1), [0])
        self.assertEqual(row_order(1, 3), [0, 1, 2])

    def test_a_flat_web_is_as_narrow_as_its_rows(self):
        for wide in range(1, 7):
            for high in range(2, 6):
                web = flat(wide, high, [1] * many_ties(wide, high))
                self.assertEqual(width_of(web, row_order(wide, high)), wide)

    def test_a_flat_web_is_parted_exactly(self):
        dice = Dice(219)
        for wide, high in ((1, 5), (5, 1), (2, 3), (3, 2), (2, 4), (3, 3)):
            web = flat(wide, high, [1 + dice.below(4) for _ in range(many_ties(wide, high))])
            posts = dice.posts(wide * high, 3)
            rows = rows_by_weight(web, posts)
            least = min(rows)
            self.assertEqual(
                least_narrow(web, posts, row_order(wide, high)), (least, min(rows[least]), len(rows[least]))
            )

    def test_asked_fairly(self):
        asked_fairly(self, flat, 2, 2, [1, 2, 3, 4])
        asked_fairly(self, row_order, 3, 2)


if __name__ == "__main__":
    unittest.main()
