"""[7], with [2] and [3] as far as they speak of it: flows, sides and their checker."""

import time
import unittest

from partedweb.flows import flow, shows_flow, side_weight, wide_side
from tests.helpers import (
    Dice, asked_fairly, bent, exchanged, great_web, is_flow_by_words, least_sides, nested, odd_things, rim_weight,
)

RING = (4, ((0, 1, 5), (0, 3, 2), (1, 2, 7), (2, 3, 1)))
CHAIN = (4, ((0, 1, 2), (1, 2, 2), (2, 3, 2)))
APART = (5, ((0, 1, 4), (2, 3, 4)))
DIAMOND = (4, ((0, 1, 10 ** 9), (0, 2, 10 ** 9), (1, 2, 1), (1, 3, 10 ** 9), (2, 3, 10 ** 9)))


def some_questions(seed, rounds):
    """Small webs with sources and sinks, several of each, in any order."""
    dice = Dice(seed)
    for _ in range(rounds):
        many = 2 + dice.below(5)
        web = dice.web(many, dice.below(2 * many + 1), 1 + dice.below(4))
        ends = dice.some(range(many), 2 + dice.below(many - 1))
        first = 1 + dice.below(len(ends) - 1)
        yield web, ends[:first], ends[first:]


class Flow(unittest.TestCase):
    def test_ordinary(self):
        value, amounts, side = flow(RING, [0], [2])
        self.assertEqual((value, side), (6, [0, 3]))
        self.assertEqual(amounts[0] + amounts[1], 6)
        self.assertEqual(flow((2, ((0, 1, 7),)), [0], [1]), (7, [7], [0]))
        self.assertEqual(flow((2, ((0, 1, 7),)), [1], [0]), (7, [-7], [1]))

    def test_least_side_of_several(self):
        self.assertEqual(flow(CHAIN, [0], [3]), (2, [2, 2, 2], [0]))
        self.assertEqual(flow(CHAIN, [3], [0]), (2, [-2, -2, -2], [3]))
        self.assertEqual(flow(CHAIN, [1], [3]), (2, [0, 2, 2], [0, 1]))

    def test_several_sources_and_sinks_in_any_order(self):
        for sources in ([0, 2], [2, 0], (2, 0)):
            self.assertEqual(flow(CHAIN, sources, [3, 1])[0], 6)
            self.assertEqual(flow(CHAIN, sources, (1, 3))[2], [0, 2])
        star = (5, ((0, 4, 3), (1, 4, 1), (2, 4, 2), (3, 4, 1)))
        value, amounts, side = flow(star, [2, 0], [3, 1])
        self.assertEqual((value, side), (2, [0, 2, 4]))
        self.assertEqual(amounts[1::2], [-1, -1])

    def test_all_places_are_ends(self):
        self.assertEqual(flow(CHAIN, [3, 0], [2, 1]), (4, [2, 0, -2], [0, 3]))

    def test_nothing_flows_between_pieces(self):
        self.assertEqual(flow(APART, [0], [3]), (0, [0, 0], [0, 1]))
        self.assertEqual(flow(APART, [3, 2], [1]), (0, [0, 0], [2, 3]))
        self.assertEqual(flow((3, ()), [2], [0]), (0, [], [2]))

    def test_kinds(self):
        told = flow(RING, (0,), (2,))
        self.assertIs(told.__class__, tuple)
        self.assertEqual([part.__class__ for part in told], [int, list, list])
        self.assertEqual({amount.__class__ for amount in told[1]}, {int})

    def test_by_all_sides(self):
        for web, sources, sinks in some_questions(21, 250):
            told = flow(web, sources, sinks)
            least, sides = least_sides(web, sources, sinks)
            self.assertEqual(told[0], least)
            self.assertEqual(told[2], sorted(set.intersection(*[set(side) for side in sides])))
            self.assertTrue(is_flow_by_words(web, sources, sinks, told))

    def test_order_of_ends_is_all_the_same(self):
        for web, sources, sinks in some_questions(22, 60):
            one, other = flow(web, sources, sinks), flow(web, sources[::-1], tuple(sinks[::-1]))
            self.assertEqual((one[0], one[2]), (other[0], other[2]))

    def test_great_weights_in_little_time(self):
        begun = time.perf_counter()
        self.assertEqual(flow(DIAMOND, [0], [3])[0], 2 * 10 ** 9)
        ladder = (30, tuple(sorted(
            [(place, place + 1, 1) for place in range(29)] + [(place, place + 2, 10 ** 9) for place in range(28)]
            + [(place, place + 3, 10 ** 9 - place) for place in range(27)]
        )))
        webs = [great_web(seed) for seed in range(23, 33)] + [ladder]
        for web in webs:
            for sources, sinks in ([0], [29]), ([29, 3, 11], [0, 14]), ([7], [1, 2, 3, 4, 5]):
                told = flow(web, sources, sinks)
                self.assertTrue(is_flow_by_words(web, sources, sinks, told))
                self.assertEqual(rim_weight(web, wide_side(web, sources, sinks)), told[0])
                self.assertIs(shows_flow(web, sources, sinks, told), True)
        self.assertLess(time.perf_counter() - begun, 30)

    def test_asked_fairly(self):
        asked_fairly(self, flow, RING, [0], [2])
        asked_fairly(self, flow, (3, ()), [2, 0], [1])
        asked_fairly(self, flow, CHAIN, [0, 3], [1, 2])


class Sides(unittest.TestCase):
    def test_wide_side(self):
        self.assertEqual(wide_side(RING, [0], [2]), [0, 3])
        self.assertEqual(wide_side(CHAIN, [0], [3]), [0, 1, 2])
        self.assertEqual(wide_side(CHAIN, [3], [0]), [1, 2, 3])
        self.assertEqual(wide_side(CHAIN, (3, 0), (2, 1)), [0, 3])
        self.assertEqual(wide_side(APART, [0], [3]), [0, 1, 4])
        self.assertEqual(wide_side((3, ()), [2], [0]), [1, 2])

    def test_wide_side_by_all_sides(self):
        for web, sources, sinks in some_questions(24, 250):
            _least, sides = least_sides(web, sources, sinks)
            wide = wide_side(web, sources, sinks)
            self.assertIs(wide.__class__, list)
            self.assertEqual(wide, sorted(set.union(*[set(side) for side in sides])))

    def test_side_weight(self):
        self.assertEqual(side_weight(RING, []), 0)
        self.assertEqual(side_weight(RING, [0, 1, 2, 3]), 0)
        self.assertEqual(side_weight(RING, [0]), 7)
        self.assertEqual(side_weight(RING, [0, 2]), 15)
        self.assertEqual(side_weight(RING, (1, 3)), 15)
        self.assertEqual(side_weight(RING, (0, 3)), 6)
        self.assertEqual(side_weight((1, ()), [0]), 0)

    def test_side_weight_by_words(self):
        dice = Dice(25)
        for seed in range(20):
            web = great_web(seed)
            side = sorted(dice.some(range(30), dice.below(31)))
            weights = [weight for a, b, weight in web[1] if len({a, b} & set(side)) == 1]
            self.assertEqual(side_weight(web, side), sum(weights))

    def test_asked_fairly(self):
        asked_fairly(self, wide_side, CHAIN, [0], [3])
        asked_fairly(self, wide_side, CHAIN, [3, 0], [2, 1])
        asked_fairly(self, side_weight, RING, [0, 2])


class ShowsFlow(unittest.TestCase):
    def shown(self, wished, web, sources, sinks, told):
        self.assertIs(shows_flow(web, sources, sinks, told), wished, (web, sources, sinks, told))

    def test_what_flow_tells_with_any_side_of_that_weight(self):
        for web, sources, sinks in some_questions(26, 120):
            value, amounts, _side = flow(web, sources, sinks)
            least, sides = least_sides(web, sources, sinks)
            for side in sides:
                self.shown(True, web, sources, sinks, (value, amounts, side))
                self.shown(True, web, tuple(sources), tuple(sinks), (value, tuple(amounts), tuple(side)))
                self.shown(False, web, sources, sinks, [value, amounts, side])
                self.shown(False, web, sources, sinks, (value + 1, amounts, side))
                self.shown(False, web, sources, sinks, (value - 1, amounts, side))

    def test_sides(self):
        amounts = [2, 2, 2]
        for side in [0], [0, 1], [0, 1, 2], (0, 1):
            self.shown(True, CHAIN, [0], [3], (2, amounts, side))
        for side in (
            [], [1], [0, 2], [0, 1, 2, 3], [1, 0], [0, 0], [0, 1, 1], [0, 4], [-1, 0], [False], [0, True], [0, None],
            ["0"], "0", 0, None, [[0]], [(0,)], [0, 1, 3],
        ):
            self.shown(False, CHAIN, [0], [3], (2, amounts, side))
        both = (3, ((0, 2, 1), (1, 2, 1)))
        self.shown(True, both, [1, 0], [2], (2, [1, 1], [0, 1]))
        self.shown(False, both, [1, 0], [2], (2, [1, 1], [1, 0]))
        self.shown(False, both, [1, 0], [2], (2, [1, 1], [0]))

    def test_amounts(self):
        for amounts in (
            [2, 2], [2, 2, 2, 2], [2, 2, 1], [1, 1, 1], [3, 3, 3], [-2, -2, -2], [2, 2, True], [2, 2, None], [2, 2, "2"],
            [], None, 2, "222", [[2], [2], [2]],
        ):
            self.shown(False, CHAIN, [0], [3], (2, amounts, [0]))
        self.shown(False, (2, ((0, 1, 1),)), [0], [1], (1, [True], [0]))
        self.shown(True, (2, ((0, 1, 1),)), [0], [1], (1, [1], [0]))

    def test_amounts_above_the_weights(self):
        web = (3, ((0, 1, 4), (0, 2, 1), (1, 2, 4)))
        self.shown(True, web, [0], [2], (5, [4, 1, 4], [0]))
        self.shown(False, web, [0], [2], (5, [5, 0, 5], [0]))
        self.shown(False, web, [2], [0], (5, [-5, 0, -5], [2]))
        self.shown(True, web, [2], [0], (5, [-4, -1, -4], [2]))

    def test_amounts_round_and_between_ends(self):
        web = (5, ((0, 1, 3), (2, 3, 2), (2, 4, 2), (3, 4, 2)))
        self.shown(True, web, [0], [1], (3, [3, 2, -2, 2], [0]))
        self.shown(False, web, [0], [1], (3, [3, 2, -2, 1], [0]))
        self.shown(True, CHAIN, [0, 1], [2, 3], (2, [2, 2, 2], [0, 1]))
        self.shown(True, CHAIN, [0, 1], [2, 3], (2, [-1, 2, 0], [0, 1]))

    def test_values(self):
        self.shown(True, APART, [0], [3], (0, [0, 0], [0, 1, 4]))
        for value in (False, None, "0", [0], (0,), 1, -1):
            self.shown(False, APART, [0], [3], (value, [0, 0], [0, 1, 4]))
        self.shown(False, (2, ((0, 1, 1),)), [0], [1], (True, [1], [0]))

    def test_bent_papers(self):
        for web, sources, sinks in some_questions(27, 25):
            told = flow(web, sources, sinks)
            for thing in bent(told):
                self.shown(is_flow_by_words(web, sources, sinks, thing), web, sources, sinks, thing)
            self.shown(False, web, sources, sinks, exchanged(told))

    def test_parts_more_or_less(self):
        told = flow(RING, [0], [2])
        for thing in (told[:2], told[1:], told + (0,), told + told, (told,), [told], told[::-1], ()):
            self.shown(False, RING, [0], [2], thing)

    def test_things_of_no_kind(self):
        for web in (RING, (3, ()), (2, ((0, 1, 1),))):
            for thing in odd_things():
                self.shown(is_flow_by_words(web, [0], [1], thing), web, [0], [1], thing)
                for at in range(3):
                    told = list(flow(web, [0], [1]))
                    told[at] = thing
                    self.shown(is_flow_by_words(web, [0], [1], tuple(told)), web, [0], [1], tuple(told))
        deep = nested(38, lambda thing: [thing])
        self.shown(False, (2, ((0, 1, 1),)), [0], [1], (1, [deep], [deep]))

    def test_asked_fairly(self):
        asked_fairly(self, shows_flow, RING, [0], [2], flow(RING, [0], [2]))
        asked_fairly(self, shows_flow, RING, [0], [2], [1, [2, [3]]])


if __name__ == "__main__":
    unittest.main()
