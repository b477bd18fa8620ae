"""[17], with [1], [2] and [3] as far as they speak of it: pairs that come apart, the lightest cut, and the checker."""

import time
import unittest
from unittest import mock

from partedweb.bounding import least_parting
from partedweb.paircheck import shows_for_pairs
from partedweb.pairs import least_for_pairs, pairs_of, parts_pairs
from partedweb.webs import weight_of
from tests.helpers import (
    Dice, all_cuts, asked_fairly, bent, exchanged, great_web, is_cut_by_words, nested, odd_things, parts_pairs_by_words,
    small_webs, some_pairs,
)

CHAIN = (4, ((0, 1, 5), (1, 2, 2), (2, 3, 7)))
RING = (4, ((0, 1, 1), (0, 3, 3), (1, 2, 2), (2, 3, 4)))
STAR = (5, ((0, 1, 4), (0, 2, 3), (0, 3, 2), (0, 4, 1)))
DEAR = ("dear",)
# The pair (0, 2) of the ring hangs together by places 1 and 3; cutting (0, 1) and (0, 3) is the lightest.
RING_TREE = ("way", 0, [0, 1, 2], (
    ("way", 0, [0, 3, 2], (DEAR, DEAR)),
    ("way", 0, [0, 3, 2], (DEAR, DEAR)),
))
RING_TOLD = (4, [(0, 1), (0, 3)], RING_TREE)


def least_by_cuts(web, pairs):
    """The least weight of a cut that parts the pairs, all cuts gone through."""
    return min(weight_of(web, cut) for cut in all_cuts(web) if parts_pairs_by_words(web, pairs, cut))


def along_by_words(web, pair, way):
    """The pairs of the ties of a way from one place of the pair to the other, None where it is none."""
    if way.__class__ not in (list, tuple) or [part for part in way if part.__class__ is not int]:
        return None
    if not way or (way[0], way[-1]) != pair or len(set(way)) != len(way):
        return None
    along = [tuple(sorted(way[at:at + 2])) for at in range(len(way) - 1)]
    return along if set(along) <= {tie[:2] for tie in web[1]} else None


def is_end_by_words(web, pairs, weight, cut, kept, node):
    """Whether a node is as the document says, by the sets of the ties that are cut and kept."""
    if node.__class__ is not tuple or not node or node[0].__class__ is not str:
        return False
    if node == DEAR:
        return sum(heavy for a, b, heavy in web[1] if (a, b) in cut) >= weight
    if (node[0], len(node)) not in (("kept", 3), ("way", 4)):
        return False
    if node[1].__class__ is not int or node[1] not in range(len(pairs)):
        return False
    along = along_by_words(web, pairs[node[1]], node[2])
    if along is None:
        return False
    if node[0] == "kept":
        return set(along) <= kept
    if set(along) & cut or set(along) <= kept:
        return False
    trees = node[3]
    if trees.__class__ is not tuple or len(trees) != len(set(along) - kept):
        return False
    at = 0
    for place, pair in enumerate(along):
        if pair not in kept:
            if not is_end_by_words(web, pairs, weight, cut | {pair}, kept | set(along[:place]), trees[at]):
                return False
            at += 1
    return True


def is_so_by_words(web, pairs, told):
    """Whether told is what shows_for_pairs is to take."""
    if told.__class__ is not tuple or len(told) != 3 or told[0].__class__ is not int:
        return False
    weight, cut, tree = told
    if not is_cut_by_words(web, cut) or not parts_pairs_by_words(web, pairs, cut) or weight != weight_of(web, cut):
        return False
    return is_end_by_words(web, pairs, weight, set(), set(), tree)


def nodes_of(tree):
    found = [tree]
    if tree[0] == "way":
        for one in tree[3]:
            found.extend(nodes_of(one))
    return found


def small_pairs(seed, rounds):
    """Webs of few ties with pairs in any order, none among them."""
    dice = Dice(seed)
    for web, _posts in small_webs(seed, rounds, 7):
        if len(web[1]) <= 8:
            yield web, some_pairs(dice, web[0], dice.below(6))


def stage_pairs(seed, rounds):
    """Webs of as many ties and pairs as the stage allows, of weights alike to great."""
    dice = Dice(seed)
    for _ in range(rounds):
        for many in (6, 7, 8, 10, 13, 30):
            for heaviest in (1, 3, 10 ** 9):
                yield dice.web(many, 12, heaviest), some_pairs(dice, many, 5)


class PairsOf(unittest.TestCase):
    def test_ordinary(self):
        self.assertEqual(pairs_of([[0, 1, 2]]), [(0, 1), (0, 2), (1, 2)])
        self.assertEqual(pairs_of([[4, 5], [0, 3]]), [(0, 3), (4, 5)])
        self.assertEqual(pairs_of([[7, 2, 5]]), [(2, 5), (2, 7), (5, 7)])

    def test_no_groups_and_groups_of_few(self):
        self.assertEqual(pairs_of([]), [])
        self.assertEqual(pairs_of([[]]), [])
        self.assertEqual(pairs_of([[3]]), [])
        self.assertEqual(pairs_of([[], [3], [1, 0], []]), [(0, 1)])

    def test_groups_that_share_places(self):
        self.assertEqual(pairs_of([[0, 1, 2], [1, 2, 3]]), [(0, 1), (0, 2), (1, 2), (1, 3), (2, 3)])
        self.assertEqual(pairs_of([[0, 1], [1, 0]]), [(0, 1)])

    def test_rises_by_first_parts(self):
        self.assertEqual(pairs_of([[2, 11], [1, 30], [1, 4], [10, 11]]), [(1, 4), (1, 30), (2, 11), (10, 11)])

    def test_tuples_may_be_handed_in(self):
        told = pairs_of(((2, 0), [1, 2]))
        self.assertEqual(told, [(0, 2), (1, 2)])
        self.assertEqual([told.__class__] + [pair.__class__ for pair in told], [list, tuple, tuple])

    def test_by_words(self):
        dice = Dice(401)
        for _ in range(60):
            groups = [dice.some(range(9), dice.below(5)) for _group in range(dice.below(5))]
            wished = {(a, b) for b in range(9) for a in range(b) if any(a in group and b in group for group in groups)}
            self.assertEqual(pairs_of(groups), sorted(wished))

    def test_asked_fairly(self):
        asked_fairly(self, pairs_of, [[0, 1, 2], [], [5, 3]])


class PartsPairs(unittest.TestCase):
    def test_ordinary(self):
        self.assertIs(parts_pairs(CHAIN, [(0, 3)], [(1, 2)]), True)
        self.assertIs(parts_pairs(CHAIN, [(0, 3)], []), False)
        self.assertIs(parts_pairs(CHAIN, [(0, 1), (2, 3)], [(1, 2)]), False)
        self.assertIs(parts_pairs(CHAIN, [(2, 3), (0, 1)], [(0, 1), (2, 3)]), True)
        self.assertIs(parts_pairs(CHAIN, ((0, 2), (1, 3)), ((1, 2),)), True)
        self.assertIs(parts_pairs(RING, [(0, 2)], [(0, 1)]), False)

    def test_no_pairs(self):
        self.assertIs(parts_pairs(CHAIN, [], []), True)
        self.assertIs(parts_pairs((1, ()), [], []), True)

    def test_a_pair_that_hangs_together_with_nothing(self):
        self.assertIs(parts_pairs((4, ((0, 1, 2),)), [(2, 3)], []), True)
        self.assertIs(parts_pairs((4, ((0, 1, 2),)), [(1, 2)], []), True)
        self.assertIs(parts_pairs((4, ((0, 1, 2),)), [(1, 2), (0, 1)], []), False)

    def test_by_words(self):
        for web, pairs in small_pairs(402, 60):
            for cut in all_cuts(web)[::3]:
                self.assertIs(parts_pairs(web, pairs, cut), parts_pairs_by_words(web, pairs, cut))

    def test_great(self):
        web = great_web(403)
        pairs = some_pairs(Dice(404), 30, 12)
        every = [tie[:2] for tie in web[1]]
        self.assertIs(parts_pairs(web, pairs, every), True)
        self.assertIs(parts_pairs(web, pairs, []), parts_pairs_by_words(web, pairs, []))

    def test_asked_fairly(self):
        asked_fairly(self, parts_pairs, CHAIN, [(0, 3)], [(1, 2)])


class LeastForPairs(unittest.TestCase):
    def test_ordinary(self):
        self.assertEqual(least_for_pairs(CHAIN, [(0, 3)])[:2], (2, [(1, 2)]))
        self.assertEqual(least_for_pairs(CHAIN, [(2, 3), (0, 3)])[:2], (7, [(2, 3)]))
        self.assertEqual(least_for_pairs(RING, [(0, 2)])[:2], (4, [(0, 1), (0, 3)]))
        self.assertEqual(least_for_pairs(STAR, ((1, 4), (2, 3)))[:2], (3, [(0, 3), (0, 4)]))

    def test_each_tie_is_cut(self):
        pairs = [tie[:2] for tie in RING[1]]
        self.assertEqual(least_for_pairs(RING, pairs)[:2], (10, pairs))
        self.assertEqual(least_for_pairs((2, ((0, 1, 10 ** 9),)), [(0, 1)])[:2], (10 ** 9, [(0, 1)]))

    def test_nothing_to_cut(self):
        for web, pairs in (
            (CHAIN, []), ((3, ()), [(0, 1), (1, 2)]), ((1, ()), []), ((5, ((0, 1, 2), (2, 3, 2))), [(1, 2), (0, 4), (3, 4)]),
        ):
            told = least_for_pairs(web, pairs)
            self.assertEqual(told, (0, [], DEAR))
            self.assertIs(shows_for_pairs(web, pairs, told), True)

    def test_pairs_in_any_order(self):
        for web, pairs in small_pairs(405, 40):
            weight = least_for_pairs(web, pairs)[0]
            self.assertEqual(least_for_pairs(web, pairs[::-1])[0], weight)
            self.assertEqual(least_for_pairs(web, tuple(sorted(pairs)))[0], weight)

    def test_kinds(self):
        seen = {}
        for web, pairs in stage_pairs(406, 3):
            told = least_for_pairs(web, pairs)
            self.assertEqual([told.__class__] + [part.__class__ for part in told], [tuple, int, list, tuple])
            for node in nodes_of(told[2]):
                self.assertEqual(node.__class__, tuple)
                seen[node[0]] = seen.get(node[0], 0) + 1
                if node[0] != "dear":
                    self.assertEqual([node[1].__class__, node[2].__class__], [int, list])
                if node[0] == "way":
                    self.assertEqual(node[3].__class__, tuple)
        self.assertGreater(seen["dear"], 100)
        self.assertGreater(seen["way"], 100)

    def test_by_all_cuts(self):
        for web, pairs in small_pairs(407, 200):
            weight, cut, tree = least_for_pairs(web, pairs)
            self.assertEqual(weight, least_by_cuts(web, pairs))
            self.assertTrue(is_so_by_words(web, pairs, (weight, cut, tree)), (web, pairs))

    def test_all_pairs_of_posts_are_a_parting(self):
        for web, posts in small_webs(408, 80, 6):
            if len(web[1]) <= 12:
                self.assertEqual(least_for_pairs(web, pairs_of([posts]))[0], least_parting(web, posts)[0])

    def test_great_in_little_time(self):
        begun = time.perf_counter()
        for web, pairs in stage_pairs(409, 6):
            told = least_for_pairs(web, pairs)
            self.assertIs(shows_for_pairs(web, pairs, told), True)
            self.assertTrue(parts_pairs_by_words(web, pairs, told[1]))
        for many in (6, 13):
            web, pairs = Dice(410).web(many, 12, 1), some_pairs(Dice(411), many, 5)
            self.assertEqual(least_for_pairs(web, pairs)[0], least_by_cuts(web, pairs))
        self.assertLess(time.perf_counter() - begun, 60)

    def test_asked_fairly(self):
        asked_fairly(self, least_for_pairs, RING, [(0, 2), (1, 3)])
        asked_fairly(self, least_for_pairs, (3, ()), [(0, 1)])
        for web, pairs in stage_pairs(412, 1):
            asked_fairly(self, least_for_pairs, web, pairs)


class ShowsForPairs(unittest.TestCase):
    def shown(self, wished, web, pairs, told):
        self.assertIs(shows_for_pairs(web, pairs, told), wished, (web, pairs, told))

    def test_what_is_told(self):
        for web, pairs in list(small_pairs(421, 100)) + list(stage_pairs(422, 1)):
            weight, cut, tree = told = least_for_pairs(web, pairs)
            self.shown(True, web, pairs, told)
            self.shown(True, web, tuple(pairs), (weight, tuple(cut), tree))
            self.shown(False, web, pairs, list(told))
            self.shown(False, web, pairs, (weight, cut, list(tree)))
            self.shown(False, web, pairs, exchanged(told))
            for bad in (weight + 1, weight - 1, None, str(weight)):
                self.shown(False, web, pairs, (bad, cut, tree))

    def test_a_heavier_cut_is_not_the_least(self):
        for web, pairs in small_pairs(423, 60):
            least = least_for_pairs(web, pairs)
            for cut in all_cuts(web):
                weight = weight_of(web, cut)
                wished = weight == least[0] and parts_pairs_by_words(web, pairs, cut)
                self.shown(wished, web, pairs, (weight, cut, least[2]))

    def test_any_tree(self):
        self.shown(True, RING, [(0, 2)], RING_TOLD)
        self.shown(True, RING, [(0, 2)], (4, [(0, 1), (0, 3)], ("way", 0, (0, 3, 2), (
            ("way", 0, [0, 1, 2], (DEAR, DEAR)), DEAR,
        ))))
        self.shown(False, RING, [(0, 2)], (5, [(0, 3), (1, 2)], RING_TREE))
        self.shown(False, RING, [(0, 2)], (5, [(0, 1), (2, 3)], RING_TREE))

    def test_dear_just_enough(self):
        self.shown(True, CHAIN, [(0, 3)], (2, [(1, 2)], ("way", 0, [0, 1, 2, 3], (DEAR, DEAR, DEAR))))
        self.shown(False, CHAIN, [(0, 3)], (2, [(1, 2)], DEAR))
        heavier = (4, ((0, 1, 1), (1, 2, 2), (2, 3, 7)))
        self.shown(False, heavier, [(0, 3)], (2, [(1, 2)], ("way", 0, [0, 1, 2, 3], (DEAR, DEAR, DEAR))))
        self.shown(True, heavier, [(0, 3)], (1, [(0, 1)], ("way", 0, [0, 1, 2, 3], (DEAR, DEAR, DEAR))))
        self.shown(True, CHAIN, [], (0, [], DEAR))

    def test_kept_ways(self):
        """Cutting (1, 2) parts both pairs; with (0, 1) kept the pair (0, 1) hangs together whatever else is cut."""
        pairs = [(0, 2), (0, 1)]
        kept = ("kept", 1, [0, 1])
        told = (5, [(0, 1)], ("way", 0, [0, 1, 2], (DEAR, kept)))
        self.shown(True, CHAIN, pairs, told)
        self.shown(True, CHAIN, pairs, (5, [(0, 1)], ("way", 0, (0, 1, 2), (DEAR, ("kept", 1, (0, 1))))))
        for bad in (
            ("kept", 0, [0, 1]), ("kept", 0, [0, 1, 2]), ("kept", 1, [1, 0]), ("kept", 1, [0]), ("kept", 1, []), DEAR,
            ("kept", 2, [0, 1]), ("kept", -1, [0, 1]), ("kept", True, [0, 1]), ("kept", None, [0, 1]), ("kept", "1", [0, 1]),
            ("kept", 1, [0, 1, 0, 1]), ("kept", 1, [0, 1, 1]), ("kept", 1, [0, True]), ("kept", 1, [False, 1]), ("kept", 1),
            ("kept", 1, [0, 1], ()), ["kept", 1, [0, 1]], ("kept", 1, "01"), ("kept", 1, None), ("kept", 1, 1), ("kept",),
            ("kept", 1, [(0, 1)]), ("kept", 1, [[0], 1]), ("kept", 1, [0, 5, 1]), ("kept", [1], [0, 1]), ("kept", (1,), [0, 1]),
            ("kept", 0, [0, 1, 2, 3]), ("dear", 1, [0, 1]), ("way", 1, [0, 1]), ("way", 1, [0, 1], ()), ("kept", [0, 1], 1),
        ):
            self.shown(False, CHAIN, pairs, (5, [(0, 1)], ("way", 0, [0, 1, 2], (DEAR, bad))))
        self.shown(False, CHAIN, pairs, (5, [(0, 1)], ("kept", 1, [0, 1])))

    def test_kept_is_what_was_ahead_alone(self):
        """At the first tree of a way nothing is kept; at the last all ties ahead of its own are."""
        web = (4, ((0, 1, 3), (1, 2, 2), (2, 3, 2)))
        pairs = [(0, 3), (0, 1), (1, 2)]
        self.shown(True, web, pairs, (5, [(0, 1), (1, 2)], ("way", 0, [0, 1, 2, 3], (
            ("way", 2, [1, 2], (DEAR,)), ("kept", 1, [0, 1]), ("kept", 2, [1, 2]),
        ))))
        self.shown(False, web, pairs, (5, [(0, 1), (1, 2)], ("way", 0, [0, 1, 2, 3], (
            ("kept", 2, [1, 2]), ("kept", 1, [0, 1]), ("kept", 2, [1, 2]),
        ))))
        self.shown(False, web, pairs, (5, [(0, 1), (1, 2)], ("way", 0, [0, 1, 2, 3], (
            ("way", 2, [1, 2], (DEAR,)), ("kept", 2, [1, 2]), ("kept", 2, [1, 2]),
        ))))

    def test_a_way_of_kept_ties_and_others(self):
        """The tree of a way has one tree for each of its ties that isn't kept, and no more."""
        web = (3, ((0, 1, 2), (1, 2, 2)))
        pairs = [(0, 1), (0, 2)]
        told = (2, [(0, 1)], ("way", 1, [0, 1, 2], (DEAR, ("kept", 0, [0, 1]))))
        self.shown(True, web, pairs, told)
        longer = (4, ((0, 1, 2), (1, 2, 1), (1, 3, 1)))
        pairs = [(0, 2), (0, 3)]
        inner = ("way", 1, [0, 1, 3], (DEAR,))
        self.shown(True, longer, pairs, (2, [(0, 1)], ("way", 0, [0, 1, 2], (DEAR, inner))))
        self.shown(True, longer, pairs, (2, [(1, 2), (1, 3)], ("way", 0, [0, 1, 2], (DEAR, inner))))
        for bad in (
            ("way", 1, [0, 1, 3], (DEAR, DEAR)), ("way", 1, [0, 1, 3], ()), ("way", 0, [0, 1, 3], (DEAR,)),
            ("way", 0, [0, 1, 2], (DEAR,)), ("way", 1, [0, 1, 3], [DEAR]), ("way", 1, [0, 1, 3], DEAR), DEAR,
            ("way", 1, [3, 1, 0], (DEAR,)), ("kept", 1, [0, 1, 3]), ("way", 1, [0, 1, 3], (("way", 0, [0, 1, 2], (DEAR,)),)),
        ):
            self.shown(False, longer, pairs, (2, [(0, 1)], ("way", 0, [0, 1, 2], (DEAR, bad))))

    def test_ways_by_ties_that_are_cut(self):
        again = ("way", 0, [0, 1, 2], (DEAR, DEAR))
        self.shown(False, RING, [(0, 2)], (4, [(0, 1), (0, 3)], ("way", 0, [0, 1, 2], (again, RING_TREE[3][1]))))
        self.shown(False, RING, [(0, 2)], (4, [(0, 1), (0, 3)], ("way", 0, [0, 1, 2], (RING_TREE[3][0], again))))

    def test_ways(self):
        for way in (
            [2, 1, 0], [0, 1], [1, 2], [0, 2], [0, 1, 0, 1, 2], [0, 1, 2, 2], [0, 0, 1, 2], [0, 1, 1, 2], [], None, 0, "012",
            [0, 3, 1, 2], [0, True, 2], [False, 1, 2], [0, None, 2], [0, "1", 2], [0, (1,), 2], [0, [1], 2], [[0, 1, 2]],
            [(0, 1), (1, 2)], [0, 4, 2], [0, -3, 2], [0, 1, 2, 3], [0, 1, 10 ** 20, 2], (0, 3), [0, 1, 2, None],
        ):
            self.shown(False, RING, [(0, 2)], (4, [(0, 1), (0, 3)], ("way", 0, way, RING_TREE[3])))
        for number in (1, -1, 2, None, False, "0", (0,), [0], (), [], 10 ** 20, (0, 2)):
            self.shown(False, RING, [(0, 2)], (4, [(0, 1), (0, 3)], ("way", number, [0, 1, 2], RING_TREE[3])))

    def test_trees_more_or_less_or_in_another_order(self):
        one, other = RING_TREE[3]
        for trees in (
            (one,), (one, other, DEAR), (), [one, other], None, 0, "dear", DEAR, (one, None), (None, other), (one, []),
            (one, ["dear"]), ("dear", "dear"), (one, DEAR), (DEAR, other), (one, ("dear", 0)), ((one, other),),
        ):
            self.shown(False, RING, [(0, 2)], (4, [(0, 1), (0, 3)], ("way", 0, [0, 1, 2], trees)))
        pairs = [(0, 2), (0, 1)]
        self.shown(False, CHAIN, pairs, (5, [(0, 1)], ("way", 0, [0, 1, 2], (("kept", 1, [0, 1]), DEAR))))

    def test_nodes_of_no_kind(self):
        for tree in (
            "way", "dear", ("dear"), ["dear"], ("dear", 0), ("dear", ()), ("Dear",), (), None, 0, True, ("kept",), ("way",),
            (RING_TREE,), [RING_TREE], list(RING_TREE), RING_TREE[:3], RING_TREE + (0,), RING_TREE + ((),), RING_TREE[1:],
            ("kept",) + RING_TREE[1:], ("dear",) + RING_TREE[1:], ("place",) + RING_TREE[1:], (None,) + RING_TREE[1:],
            (("way",),) + RING_TREE[1:], (["way"],) + RING_TREE[1:], RING_TREE[::-1],
        ):
            self.shown(False, RING, [(0, 2)], (4, [(0, 1), (0, 3)], tree))

    def test_cuts(self):
        for weight, cut in (
            (4, [(0, 3), (0, 1)]), (4, [(0, 1), (0, 1), (0, 3)]), (4, [(1, 0), (3, 0)]), (4, [[0, 1], [0, 3]]), (1, [(0, 1)]),
            (4, [(False, 1), (0, 3)]), (4, [(0, True), (0, 3)]), (4, [(0, 1, 1), (0, 3, 3)]), (4, None), (4, "x"), (4, 4),
            (4, [(0, 1), (0, 2), (0, 3)]), (0, []), (4, [None]), (4, [(0, 1), ([0], 3)]), (7, [(0, 1), (0, 3)]),
        ):
            self.shown(False, RING, [(0, 2)], (weight, cut, RING_TREE))

    def test_true_and_false_are_no_numbers(self):
        web = (2, ((0, 1, 1),))
        self.shown(True, web, [(0, 1)], (1, [(0, 1)], ("way", 0, [0, 1], (DEAR,))))
        self.shown(False, web, [(0, 1)], (True, [(0, 1)], ("way", 0, [0, 1], (DEAR,))))
        self.shown(False, web, [(0, 1)], (1, [(False, True)], ("way", 0, [0, 1], (DEAR,))))
        self.shown(False, web, [(0, 1)], (1, [(0, 1)], ("way", False, [0, 1], (DEAR,))))
        self.shown(False, web, [(0, 1)], (1, [(0, 1)], ("way", 0, [False, 1], (DEAR,))))
        self.shown(False, (2, ()), [], (False, [], DEAR))

    def test_parts_more_or_less(self):
        told = RING_TOLD
        for thing in (told[:2], told[1:], told + (0,), told + told, (told,), [told], told[::-1], (), told[2], (told[2],)):
            self.shown(False, RING, [(0, 2)], thing)

    def test_bent_trees(self):
        for web, pairs, told in (
            (RING, [(0, 2)], RING_TOLD),
            (CHAIN, [(0, 2), (0, 1)], (5, [(0, 1)], ("way", 0, [0, 1, 2], (DEAR, ("kept", 1, [0, 1]))))),
            (CHAIN, [(0, 3)], (2, [(1, 2)], ("way", 0, [0, 1, 2, 3], (DEAR, DEAR, DEAR)))),
        ):
            self.shown(True, web, pairs, told)
            for thing in bent(told):
                self.shown(is_so_by_words(web, pairs, thing), web, pairs, thing)
        for web, pairs in small_pairs(424, 25):
            for thing in bent(least_for_pairs(web, pairs)):
                self.shown(is_so_by_words(web, pairs, thing), web, pairs, thing)

    def test_things_of_no_kind(self):
        for web, pairs in ((RING, [(0, 2)]), ((2, ()), [(0, 1)]), (CHAIN, [(0, 2), (0, 1)]), ((1, ()), [])):
            for thing in odd_things():
                self.shown(False, web, pairs, thing)
                for at in range(3):
                    told = list(least_for_pairs(web, pairs))
                    told[at] = thing
                    self.shown(is_so_by_words(web, pairs, tuple(told)), web, pairs, tuple(told))
                for tree in (
                    ("way", thing, [0, 1, 2], RING_TREE[3]), ("way", 0, thing, RING_TREE[3]), ("way", 0, [0, 1, 2], thing),
                    (thing,), ("kept", thing, [0, 1, 2]), ("kept", 0, thing), (thing, 0, [0, 1, 2], RING_TREE[3]),
                ):
                    wished = is_so_by_words(RING, [(0, 2)], (4, [(0, 1), (0, 3)], tree))
                    self.shown(wished, RING, [(0, 2)], (4, [(0, 1), (0, 3)], tree))
        for make in (
            lambda thing: ("way", 0, [0, 1, 2], (thing, thing)), lambda thing: ("kept", 0, [thing]), lambda thing: (thing,),
        ):
            self.shown(False, RING, [(0, 2)], (4, [(0, 1), (0, 3)], nested(18, make)))

    def test_great_webs(self):
        """A star of as many places and pairs as the bounds allow: each pair is parted by one tie of its own."""
        web = (30, tuple((0, place, 10 ** 9 - place) for place in range(1, 30)))
        pairs = [(place, place + 12) for place in range(12, 0, -1)]
        tree = DEAR
        for number in range(len(pairs)):
            tree = ("way", number, [pairs[number][0], 0, pairs[number][1]], (tree, tree))
        cut = [(0, place + 12) for place in range(1, 13)]
        begun = time.perf_counter()
        self.shown(True, web, pairs, (weight_of(web, cut), cut, tree))
        self.shown(False, web, pairs, (weight_of(web, cut) + 1, cut, tree))
        self.shown(False, web, pairs, (weight_of(web, cut[1:]), cut[1:], tree))
        self.assertLess(time.perf_counter() - begun, 30)

    def test_knows_nothing_of_how_it_is_found(self):
        told = [(web, pairs, least_for_pairs(web, pairs)) for web, pairs in small_pairs(425, 20)]
        with mock.patch("partedweb.pairs.loosest_way", side_effect=AssertionError):
            for web, pairs, one in told:
                self.shown(True, web, pairs, one)

    def test_asked_fairly(self):
        asked_fairly(self, shows_for_pairs, RING, [(0, 2)], (4, [(0, 1), (0, 3)], ("way", 0, [0, 1, 2], (
            ("way", 0, [0, 3, 2], (DEAR, DEAR)), ("way", 0, [0, 3, 2], (DEAR, DEAR)),
        ))))
        asked_fairly(self, shows_for_pairs, RING, [(0, 2)], (4, [(0, 1), (0, 3)], ("kept", 0, [[], [0]])))


if __name__ == "__main__":
    unittest.main()
