"""[4] and [5], with [2] and [3] as far as they speak of these: webs, cuts, pieces, merged webs."""

import unittest

from partedweb.webs import is_web, merged, pieces, weight_of, without
from tests.helpers import Dice, asked_fairly, bent, exchanged, great_web, nested, odd_things, small_webs, together

RING = (4, ((0, 1, 5), (0, 3, 2), (1, 2, 7), (2, 3, 1)))


def is_web_by_words(thing):
    if thing.__class__ is not tuple or len(thing) != 2:
        return False
    many, ties = thing
    if many.__class__ is not int or many < 1 or ties.__class__ is not tuple:
        return False
    for tie in ties:
        if tie.__class__ is not tuple or [part.__class__ for part in tie] != [int, int, int]:
            return False
        if not (tie[0] >= 0 and tie[0] < tie[1] and tie[1] <= many - 1 and tie[2] >= 1):
            return False
    pairs = [(a, b) for a, b, _weight in ties]
    return pairs == sorted(set(pairs))


class IsWeb(unittest.TestCase):
    def test_webs(self):
        for web in [(1, ()), (2, ()), (2, ((0, 1, 1),)), RING, great_web(1), (10 ** 40, ((3, 10 ** 39, 10 ** 50),))]:
            self.assertIs(is_web(web), True)

    def test_too_few_places(self):
        for thing in [(0, ()), (-1, ()), (-2, ((-2, -1, 1),))]:
            self.assertIs(is_web(thing), False)

    def test_true_and_false_are_no_numbers(self):
        for thing in [
            (True, ()), (2, ((False, 1, 1),)), (2, ((0, True, 1),)), (2, ((0, 1, True),)), (True, True), (False, ())
        ]:
            self.assertIs(is_web(thing), False)

    def test_lists_are_no_tuples(self):
        for thing in [[1, ()], (1, []), (2, [(0, 1, 1)]), (2, ([0, 1, 1],)), [2, [[0, 1, 1]]], [1, []]]:
            self.assertIs(is_web(thing), False)

    def test_ties_that_are_none(self):
        for tie in [
            (1, 0, 1), (0, 0, 1), (0, 2, 1), (-1, 0, 1), (0, 1, 0), (0, 1, -1), (0, 1), (0, 1, 1, 1), (), 0, None, "011",
            ("0", "1", "1"), (0, 1, None), (0, None, 1), (None, 1, 1), (0, 1, "1"), ((0,), 1, 1), (0, [1], 1),
        ]:
            self.assertIs(is_web((2, (tie,))), False, tie)

    def test_ties_out_of_order_or_twice(self):
        self.assertIs(is_web((3, ((0, 1, 1), (0, 2, 1), (1, 2, 1)))), True)
        for ties in [
            ((0, 2, 1), (0, 1, 1)), ((1, 2, 1), (0, 1, 9)), ((0, 1, 1), (0, 1, 1)), ((0, 1, 1), (0, 1, 2)),
            ((0, 1, 1), (1, 0, 1)), ((0, 1, 1), (1, 2, 1), (0, 2, 1)),
        ]:
            self.assertIs(is_web((3, ties)), False, ties)

    def test_another_number_of_parts(self):
        for thing in [(), (1,), (1, (), ()), ((), 1), (2, (0, 1, 1)), (1, None), (None, ()), ("1", ()), (1, "")]:
            self.assertIs(is_web(thing), False)

    def test_things_of_no_kind(self):
        for thing in odd_things():
            self.assertIs(is_web(thing), thing == (1, ()) and thing.__class__ is tuple, thing)
        for deep in [nested(38, lambda thing: (1, (thing,))), (2, (nested(38, lambda thing: [thing]),))]:
            self.assertIs(is_web(deep), False)

    def test_bent_webs(self):
        for web in [(1, ()), (2, ((0, 1, 1),)), RING, (3, ((0, 1, 1), (0, 2, 1), (1, 2, 1)))]:
            for thing in bent(web):
                self.assertIs(is_web(thing), is_web_by_words(thing), thing)
            self.assertIs(is_web(exchanged(web)), False)

    def test_nothing_handed_in_is_changed(self):
        for thing in [RING, [4, [[0, 1, 2]]], (2, ([0, 1, 1],))]:
            asked_fairly(self, is_web, thing)


class Cuts(unittest.TestCase):
    def test_weight_of(self):
        self.assertEqual(weight_of(RING, []), 0)
        self.assertEqual(weight_of(RING, [(1, 2)]), 7)
        self.assertEqual(weight_of(RING, [(0, 3), (1, 2)]), 9)
        self.assertEqual(weight_of(RING, [(0, 1), (0, 3), (1, 2), (2, 3)]), 15)
        self.assertEqual(weight_of((1, ()), []), 0)

    def test_great_weights_are_exact(self):
        web = great_web(3)
        cut = [(a, b) for a, b, _weight in web[1]]
        self.assertEqual(weight_of(web, cut), sum(weight for _a, _b, weight in web[1]))

    def test_without(self):
        self.assertEqual(without(RING, []), RING)
        self.assertEqual(without(RING, [(0, 3), (1, 2)]), (4, ((0, 1, 5), (2, 3, 1))))
        self.assertEqual(without(RING, [(0, 1), (0, 3), (1, 2), (2, 3)]), (4, ()))
        self.assertEqual(without((1, ()), []), (1, ()))
        self.assertIs(is_web(without(RING, [(0, 3)])), True)

    def test_a_tuple_stands_for_a_list(self):
        for cut in [[], [(1, 2)], [(0, 3), (1, 2)]]:
            self.assertEqual(weight_of(RING, tuple(cut)), weight_of(RING, cut))
            self.assertEqual(without(RING, tuple(cut)), without(RING, cut))

    def test_asked_fairly(self):
        asked_fairly(self, weight_of, RING, [(0, 3), (1, 2)])
        asked_fairly(self, without, RING, [(0, 3), (1, 2)])

    def test_both_by_words(self):
        dice = Dice(5)
        for web, _posts in small_webs(4, 60):
            pairs = [(a, b) for a, b, _weight in web[1]]
            cut = sorted(dice.some(pairs, dice.below(len(pairs) + 1)))
            rest = without(web, cut)
            self.assertIs(is_web(rest), True)
            self.assertEqual(sorted(rest[1] + tuple(tie for tie in web[1] if tie[:2] in cut)), list(web[1]))
            self.assertFalse([tie for tie in rest[1] if tie[:2] in cut])
            self.assertEqual(weight_of(web, cut) + weight_of(rest, [tie[:2] for tie in rest[1]]), weight_of(web, pairs))


class Pieces(unittest.TestCase):
    def test_pieces(self):
        self.assertEqual(pieces((1, ())), [[0]])
        self.assertEqual(pieces((3, ())), [[0], [1], [2]])
        self.assertEqual(pieces(RING), [[0, 1, 2, 3]])
        self.assertEqual(pieces((6, ((0, 5, 1), (1, 3, 1), (2, 5, 1)))), [[0, 2, 5], [1, 3], [4]])
        self.assertEqual(pieces((5, ((0, 4, 1), (1, 2, 1), (3, 4, 1)))), [[0, 3, 4], [1, 2]])

    def test_long_chain(self):
        chain = (30, tuple((place, place + 1, 1) for place in range(29)))
        self.assertEqual(pieces(chain), [list(range(30))])

    def test_by_words(self):
        for web, _posts in small_webs(6, 100):
            found = together(web, [])
            self.assertEqual(pieces(web), sorted({tuple(sorted(one)): sorted(one) for one in found}.values()))

    def test_told_lists_are_the_askers_own(self):
        for web in [(3, ()), RING, (5, ((0, 4, 1), (1, 2, 1)))]:
            asked_fairly(self, pieces, web)


class Merged(unittest.TestCase):
    def test_merged(self):
        self.assertEqual(merged(RING, (0, 1, 2, 3)), RING)
        self.assertEqual(merged(RING, (0, 0, 0, 0)), (1, ()))
        self.assertEqual(merged(RING, (0, 0, 1, 1)), (2, ((0, 1, 9),)))
        self.assertEqual(merged(RING, (1, 1, 0, 0)), (2, ((0, 1, 9),)))
        self.assertEqual(merged(RING, (0, 1, 0, 1)), (2, ((0, 1, 15),)))
        self.assertEqual(merged(RING, (2, 0, 1, 0)), (3, ((0, 1, 8), (0, 2, 7))))
        self.assertEqual(merged(RING, (3, 2, 1, 0)), (4, ((0, 1, 1), (0, 3, 2), (1, 2, 7), (2, 3, 5))))
        self.assertEqual(merged((1, ()), (0,)), (1, ()))
        self.assertEqual(merged((3, ()), (1, 0, 1)), (2, ()))

    def test_by_words(self):
        dice = Dice(9)
        for web, _posts in small_webs(8, 100):
            many = 1 + dice.below(web[0])
            names = list(range(many)) + [dice.below(many) for _ in range(web[0] - many)]
            names = tuple(dice.some(names, len(names)))
            less = merged(web, names)
            self.assertIs(is_web(less), True)
            self.assertEqual(less[0], many)
            for a in range(many):
                for b in range(a + 1, many):
                    weights = [tie[2] for tie in web[1] if sorted([names[tie[0]], names[tie[1]]]) == [a, b]]
                    self.assertEqual([tie[2] for tie in less[1] if tie[:2] == (a, b)], [sum(weights)] if weights else [])

    def test_asked_fairly(self):
        asked_fairly(self, merged, RING, (2, 0, 1, 0))


if __name__ == "__main__":
    unittest.main()
