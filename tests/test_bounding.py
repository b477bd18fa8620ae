"""[15], with [1], [2] and [3] as far as they speak of it: least partings by a tree of bounds, and the checker."""

import time
import unittest
from unittest import mock

from partedweb.alls import all_least
from partedweb.boundcheck import shows_least_parting
from partedweb.bounding import least_parting
from partedweb.flows import flow
from partedweb.leastshares import least_shares
from partedweb.narrow import least_narrow
from partedweb.rounding import rounded
from partedweb.singles import by_singles, singles
from partedweb.trees import is_tree, least_on_tree
from partedweb.webs import weight_of
from tests.helpers import (
    Dice, all_cuts, asked_fairly, bent, exchanged, is_cut_by_words, is_flow_by_words, least_weight, nested, odd_things,
    parts, rows_by_weight, small_webs,
)

STAR = (4, ((0, 3, 1), (1, 3, 1), (2, 3, 1)))
WIDE_STAR = (5, ((0, 4, 1), (1, 4, 1), (2, 4, 1), (3, 4, 1)))
# Its single cuts weigh 4 together, its least partings 3, and its posts' own ties show 2.
TWIN = (6, ((0, 4, 1), (1, 4, 1), (2, 5, 1), (3, 5, 1), (4, 5, 1)))
FOUR = [0, 1, 2, 3]
NEAR = ("near",)
TWIN_CUT = [(0, 4), (1, 4), (2, 5)]
TWIN_TREE = ("place", 4, (NEAR,) * 4)


def is_bound_by_words(web, posts, weight, owned, node):
    """Whether a node is as the document says, by a dict of the places that are given."""
    if node.__class__ is not tuple or not node or node[0].__class__ is not str:
        return False
    if node[0] == "floor" and len(node) == 2:
        papers = node[1]
        if papers.__class__ not in (list, tuple) or len(papers) != len(posts):
            return False
        for post, paper in zip(posts, papers):
            own = [place for place in owned if owned[place] == post]
            if not is_flow_by_words(web, own, [place for place in owned if place not in own], paper):
                return False
        return sum(paper[0] for paper in papers) >= 2 * weight - 1
    if node == NEAR:
        return near_by_words(web, posts, owned) >= weight
    if node[0] == "place" and len(node) == 3:
        place, trees = node[1:]
        if place.__class__ is not int or place not in range(web[0]) or place in owned:
            return False
        if trees.__class__ is not tuple or len(trees) != len(posts):
            return False
        return all(
            is_bound_by_words(web, posts, weight, {**owned, place: post}, tree) for post, tree in zip(posts, trees)
        )
    return False


def near_by_words(web, posts, owned):
    weight = sum(heavy for a, b, heavy in web[1] if a in owned and b in owned and owned[a] != owned[b])
    for place in set(range(web[0])) - set(owned):
        ties = {post: 0 for post in posts}
        for a, b, heavy in web[1]:
            far = a + b - place
            if place in (a, b) and far in owned:
                ties[owned[far]] += heavy
        weight += sum(ties.values()) - max(ties.values())
    return weight


def is_so_by_words(web, posts, told):
    """Whether told is what shows_least_parting is to take."""
    if told.__class__ is not tuple or len(told) != 3 or told[0].__class__ is not int:
        return False
    weight, cut, tree = told
    if not is_cut_by_words(web, cut) or not parts(web, posts, cut):
        return False
    ties = {(a, b): heavy for a, b, heavy in web[1]}
    if weight != sum(ties[pair] for pair in cut):
        return False
    return is_bound_by_words(web, posts, weight, {post: post for post in posts}, tree)


def full_tree(posts, places):
    """A tree in which each place is given away, one behind the other, and near nodes stand at all ends."""
    if not places:
        return NEAR
    return ("place", places[0], tuple(full_tree(posts, places[1:]) for _post in posts))


def nodes_of(tree):
    found = [tree]
    if tree[0] == "place":
        for one in tree[2]:
            found.extend(nodes_of(one))
    return found


def stage_webs(seed, rounds):
    """Webs of as many places and posts as the stage allows, of few ties to all, of weights alike to great."""
    dice = Dice(seed)
    for _ in range(rounds):
        for ties in (12, 15, 18, 25, 45):
            for heaviest in (1, 3, 10 ** 9):
                yield dice.web(10, ties, heaviest), dice.posts(10, 4)


class LeastParting(unittest.TestCase):
    def test_ordinary(self):
        weight, cut, tree = least_parting(TWIN, FOUR)
        self.assertEqual(weight, 3)
        self.assertEqual(len(cut), 3)
        self.assertTrue(parts(TWIN, FOUR, cut))
        self.assertEqual(tree[0], "place")
        self.assertEqual(least_parting((4, ((0, 1, 5), (0, 3, 2), (1, 2, 7), (2, 3, 1))), (0, 2))[:2], (6, [(0, 1), (2, 3)]))
        self.assertEqual(least_parting((4, ((0, 3, 5), (1, 3, 6), (2, 3, 7))), [0, 1, 2])[:2], (11, [(0, 3), (1, 3)]))

    def test_single_cuts_alone_are_not_the_least(self):
        found = 0
        for web, posts in stage_webs(301, 4):
            weight, cut, _tree = least_parting(web, posts)
            self.assertLessEqual(weight, by_singles(web, posts)[0])
            self.assertEqual(weight, weight_of(web, cut))
            found += weight < by_singles(web, posts)[0]
        self.assertGreater(found, 3)

    def test_each_place_is_a_post(self):
        told = least_parting((3, ((0, 1, 1), (0, 2, 3), (1, 2, 4))), [0, 1, 2])
        self.assertEqual(told[:2], (8, [(0, 1), (0, 2), (1, 2)]))
        self.assertEqual(len(nodes_of(told[2])), 1)
        self.assertEqual(least_parting((2, ((0, 1, 9),)), (0, 1))[:2], (9, [(0, 1)]))

    def test_nothing_to_cut(self):
        for web, posts in (
            ((3, ()), [0, 2]), ((2, ()), [0, 1]), ((10, ()), [1, 3, 5, 7]), ((4, ((0, 1, 2),)), [1, 2]),
            ((5, ((0, 3, 2), (1, 4, 1))), [0, 1, 2]), ((5, ((2, 3, 2), (3, 4, 1))), [0, 1]),
        ):
            told = least_parting(web, posts)
            self.assertEqual(told[:2], (0, []))
            self.assertEqual(len(nodes_of(told[2])), 1)
            self.assertIs(shows_least_parting(web, posts, told), True)

    def test_several_pieces(self):
        web = (10, TWIN[1] + ((6, 7, 5), (7, 8, 5), (8, 9, 5)))
        weight, cut, tree = least_parting(web, FOUR)
        self.assertEqual(weight, 3)
        self.assertTrue(set(cut) <= {tie[:2] for tie in TWIN[1]})
        self.assertIs(shows_least_parting(web, FOUR, (weight, cut, tree)), True)

    def test_two_posts_need_one_node(self):
        for web, posts in small_webs(302, 60, 8):
            self.assertEqual(len(nodes_of(least_parting(web, posts[:2])[2])), 1)

    def test_kinds(self):
        seen = {}
        for web, posts in stage_webs(303, 2):
            told = least_parting(web, tuple(posts))
            self.assertEqual([told.__class__] + [part.__class__ for part in told], [tuple, int, list, tuple])
            for node in nodes_of(told[2]):
                self.assertEqual(node.__class__, tuple)
                seen[node[0]] = seen.get(node[0], 0) + 1
                if node[0] == "floor":
                    self.assertEqual([node[1].__class__] + [paper.__class__ for paper in node[1]], [list] + [tuple] * 4)
                if node[0] == "place":
                    self.assertEqual([node[1].__class__, node[2].__class__], [int, tuple])
        self.assertEqual(sorted(seen), ["floor", "near", "place"])
        self.assertGreater(min(seen.values()), 10)

    def test_by_all_rows_of_owners(self):
        for web, posts in small_webs(304, 200, 8):
            weight, cut, tree = least_parting(web, posts)
            self.assertEqual(weight, least_weight(web, posts))
            self.assertTrue(is_so_by_words(web, posts, (weight, cut, tree)))

    def test_by_all_cuts(self):
        for web, posts in small_webs(305, 120, 6):
            if len(web[1]) <= 8:
                cuts = [cut for cut in all_cuts(web) if parts(web, posts, cut)]
                self.assertEqual(least_parting(web, posts)[0], min(weight_of(web, cut) for cut in cuts))

    def test_great_in_little_time(self):
        begun = time.perf_counter()
        for web, posts in stage_webs(306, 6):
            told = least_parting(web, posts)
            self.assertIs(shows_least_parting(web, posts, told), True)
            self.assertEqual(told[0], least_narrow(web, posts, list(range(10)))[0])
        self.assertLess(time.perf_counter() - begun, 60)

    def test_weights_all_alike(self):
        web = (10, tuple((a, b, 10 ** 9) for a in range(10) for b in range(a + 1, 10)))
        self.assertEqual(least_parting(web, [0, 3, 6, 9])[0], 24 * 10 ** 9)
        self.assertEqual(least_parting(web, [0, 9])[0], 9 * 10 ** 9)

    def test_the_other_ways_agree(self):
        trees = 0
        for web, posts in list(small_webs(307, 150, 8)) + [(Dice(seed).tree(9, 9), [0, 3, 7]) for seed in range(20)]:
            weight, cut, _tree = least_parting(web, posts)
            self.assertEqual(weight, least_narrow(web, posts, list(range(web[0])))[0])
            self.assertIn(cut, all_least(web, posts))
            if is_tree(web):
                trees += 1
                self.assertEqual(weight, least_on_tree(web, posts)[0])
        self.assertGreater(trees, 20)

    def test_what_is_found_faster_is_near_it(self):
        for web, posts in small_webs(308, 150, 8):
            least = least_parting(web, posts)[0]
            many = len(posts)
            self.assertLessEqual(many * by_singles(web, posts)[0], (2 * many - 2) * least)
            if web[0] - many <= 4 and len(web[1]) <= 9:
                weight = rounded(web, posts, least_shares(web, posts)[1])[0]
                self.assertLessEqual(2 * many * weight, (3 * many - 2) * least)
                self.assertLessEqual(least, weight)

    def test_asked_fairly(self):
        asked_fairly(self, least_parting, TWIN, [0, 1, 2, 3])
        asked_fairly(self, least_parting, STAR, [0, 1, 2])
        asked_fairly(self, least_parting, (4, ((0, 1, 2),)), [1, 2])
        for web, posts in stage_webs(309, 1):
            asked_fairly(self, least_parting, web, posts)


class ShowsLeastParting(unittest.TestCase):
    def shown(self, wished, web, posts, told):
        self.assertIs(shows_least_parting(web, posts, told), wished, (web, posts, told))

    def test_what_is_told(self):
        for web, posts in list(small_webs(311, 80, 8)) + list(stage_webs(312, 1)):
            weight, cut, tree = told = least_parting(web, posts)
            self.shown(True, web, posts, told)
            self.shown(True, web, tuple(posts), (weight, tuple(cut), tree))
            self.shown(False, web, posts, list(told))
            self.shown(False, web, posts, (weight, cut, list(tree)))
            self.shown(False, web, posts, exchanged(told))
            for bad in (weight + 1, weight - 1, None, str(weight)):
                self.shown(False, web, posts, (bad, cut, tree))

    def test_any_tree(self):
        dice = Dice(313)
        for web, posts in small_webs(314, 100, 6):
            free = [place for place in range(web[0]) if place not in posts]
            weight, cut, _tree = least_parting(web, posts)
            self.shown(True, web, posts, (weight, cut, full_tree(posts, dice.some(free, len(free)))))

    def test_a_heavier_parting_is_not_the_least(self):
        for web, posts in small_webs(315, 100, 6):
            free = [place for place in range(web[0]) if place not in posts]
            least = least_parting(web, posts)
            for weight, rows in rows_by_weight(web, posts).items():
                for owners in rows[:4]:
                    cut = [(a, b) for a, b, _heavy in web[1] if owners[a] != owners[b]]
                    self.shown(weight == least[0], web, posts, (weight, cut, least[2]))
                    self.shown(weight == least[0], web, posts, (weight, cut, full_tree(posts, free)))
                    self.shown(False, web, posts, (weight + 1, cut, least[2]))

    def test_a_cut_that_parts_nothing(self):
        self.shown(True, STAR, [0, 1, 2], (2, [(0, 3), (1, 3)], NEAR))
        self.shown(False, STAR, [0, 1, 2], (1, [(0, 3)], NEAR))
        self.shown(False, STAR, [0, 1, 2], (0, [], NEAR))
        self.shown(False, STAR, [0, 1, 2], (3, [(0, 3), (1, 3), (2, 3)], NEAR))

    def test_floors_just_great_enough(self):
        floor = ("floor", singles(STAR, [0, 1, 2]))
        self.assertEqual(sum(paper[0] for paper in floor[1]), 3)
        self.shown(True, STAR, [0, 1, 2], (2, [(0, 3), (1, 3)], floor))
        wide = ("floor", singles(WIDE_STAR, FOUR))
        self.assertEqual(sum(paper[0] for paper in wide[1]), 4)
        self.shown(False, WIDE_STAR, FOUR, (3, [(0, 4), (1, 4), (2, 4)], wide))
        chain = (3, ((0, 1, 2), (1, 2, 2)))
        self.shown(True, chain, [0, 2], (2, [(0, 1)], ("floor", singles(chain, [0, 2]))))

    def test_floors_behind_places(self):
        tree = ("place", 4, tuple(("floor", self.papers(WIDE_STAR, FOUR, post)) for post in FOUR))
        self.shown(True, WIDE_STAR, FOUR, (3, [(0, 4), (1, 4), (2, 4)], tree))
        crossed = ("place", 4, tree[2][1:] + tree[2][:1])
        self.shown(False, WIDE_STAR, FOUR, (3, [(0, 4), (1, 4), (2, 4)], crossed))
        alone = ("place", 4, (("floor", singles(WIDE_STAR, FOUR)),) * 4)
        self.shown(False, WIDE_STAR, FOUR, (3, [(0, 4), (1, 4), (2, 4)], alone))

    def papers(self, web, posts, owner):
        """Flows where place 4 is given to the owner."""
        papers = []
        for post in posts:
            own = [post, 4] if post == owner else [post]
            papers.append(flow(web, own, [place for place in posts + [4] if place not in own]))
        return papers

    def test_papers(self):
        cut = [(0, 3), (1, 3)]
        papers = singles(STAR, [0, 1, 2])
        self.shown(True, STAR, [0, 1, 2], (2, cut, ("floor", papers)))
        self.shown(True, STAR, [0, 1, 2], (2, cut, ("floor", tuple(papers))))
        self.shown(True, STAR, [0, 1, 2], (2, cut, ("floor", [(1, (1, 0, -1), (0,))] + papers[1:])))
        for bad in (
            papers[:2], papers[1:], papers + papers[:1], papers[::-1], [papers[0], papers[0], papers[2]], [], None, 0, "x",
            [None, None, None], [papers[0], papers[1], list(papers[2])], [papers[0], papers[1], papers[2][:2]],
            [(2,) + papers[0][1:]] + papers[1:], [(True,) + papers[0][1:]] + papers[1:], (papers,), [papers],
        ):
            self.shown(False, STAR, [0, 1, 2], (2, cut, ("floor", bad)))

    def test_near_just_heavy_enough(self):
        chain = (3, ((0, 1, 2), (1, 2, 3)))
        self.shown(True, chain, [0, 2], (2, [(0, 1)], NEAR))
        self.shown(False, chain, [0, 2], (3, [(1, 2)], NEAR))
        self.shown(True, WIDE_STAR, FOUR, (3, [(0, 4), (1, 4), (2, 4)], NEAR))
        self.shown(False, TWIN, FOUR, (3, TWIN_CUT, NEAR))
        self.shown(True, TWIN, FOUR, (3, TWIN_CUT, TWIN_TREE))
        longer = (4, ((0, 1, 1), (1, 2, 1), (2, 3, 1)))
        self.shown(False, longer, [0, 3], (1, [(1, 2)], NEAR))
        self.shown(False, longer, [0, 3], (1, [(1, 2)], ("place", 1, (NEAR, ("place", 2, (NEAR,))))))
        self.shown(True, longer, [0, 3], (1, [(1, 2)], ("place", 1, (NEAR, NEAR))))

    def test_near_with_ties_that_weigh_the_same(self):
        web = (4, ((0, 3, 2), (1, 3, 2), (2, 3, 1)))
        self.shown(True, web, [0, 1, 2], (3, [(0, 3), (2, 3)], NEAR))
        self.shown(True, web, [0, 1, 2], (3, [(1, 3), (2, 3)], NEAR))
        self.shown(False, web, [0, 1, 2], (4, [(0, 3), (1, 3)], NEAR))
        # Two places of one post count as one: place 3 is tied by 2 to post 0's, by 2 to post 2's.
        twice = (5, ((0, 3, 1), (0, 4, 9), (2, 3, 2), (3, 4, 1)))
        self.shown(True, twice, [0, 1, 2], (2, [(2, 3)], ("place", 4, (NEAR, NEAR, NEAR))))

    def test_near_by_the_ties_between_given_places(self):
        web = (4, ((0, 1, 3), (0, 2, 1), (1, 2, 1), (1, 3, 4)))
        self.shown(True, web, [0, 1], (4, [(0, 1), (0, 2)], NEAR))
        tree = ("place", 3, (NEAR, ("place", 2, (NEAR, NEAR))))
        self.shown(True, web, [0, 1], (4, [(0, 1), (0, 2)], tree))

    def test_places_that_are_not_free(self):
        inner = ("place", 5, (NEAR,) * 4)
        self.shown(True, TWIN, FOUR, (3, TWIN_CUT, ("place", 4, (inner,) * 4)))
        again = ("place", 4, (NEAR,) * 4)
        for at in range(4):
            trees = (NEAR,) * at + (again,) + (NEAR,) * (3 - at)
            self.shown(False, TWIN, FOUR, (3, TWIN_CUT, ("place", 4, trees)))
        for place in (0, 1, 2, 3, -1, -2, 6, 10 ** 20, True, False, None, "4", (4,), [4], (), 4 * [0]):
            self.shown(False, TWIN, FOUR, (3, TWIN_CUT, ("place", place, (inner,) * 4)))
            self.shown(False, TWIN, FOUR, (3, TWIN_CUT, ("place", place, (NEAR,) * 4)))

    def test_true_and_false_are_no_places_and_no_weights(self):
        web = (3, ((0, 1, 1), (1, 2, 1)))
        self.shown(True, web, [0, 2], (1, [(0, 1)], ("place", 1, (NEAR, NEAR))))
        self.shown(False, web, [0, 2], (1, [(0, 1)], ("place", True, (NEAR, NEAR))))
        self.shown(False, web, [0, 2], (True, [(0, 1)], ("place", 1, (NEAR, NEAR))))
        self.shown(False, web, [0, 2], (1, [(False, True)], NEAR))
        first = (3, ((0, 1, 1), (0, 2, 1)))
        self.shown(True, first, [1, 2], (1, [(0, 1)], ("place", 0, (NEAR, NEAR))))
        self.shown(False, first, [1, 2], (1, [(0, 1)], ("place", False, (NEAR, NEAR))))
        self.shown(False, (2, ()), [0, 1], (False, [], NEAR))
        self.shown(True, (2, ()), [0, 1], (0, [], NEAR))

    def test_trees_more_or_less_or_in_another_order(self):
        web = (5, ((0, 2, 1), (1, 3, 2), (2, 4, 3), (3, 4, 2)))
        told = least_parting(web, [0, 1])
        self.shown(True, web, [0, 1], told)
        tree = ("place", 4, (("place", 3, (NEAR, NEAR)), NEAR))
        cut = [(0, 2)]
        self.assertEqual(told[0], 1)
        self.shown(True, web, [0, 1], (1, cut, tree))
        for trees in (
            (NEAR,), (NEAR, NEAR, NEAR), (), tree[2] + (NEAR,), tree[2][:1], list(tree[2]), None, 0, "near", NEAR, [NEAR, NEAR],
            (NEAR, None), (None, NEAR), (("near"), NEAR), (["near"], NEAR), (NEAR, ()), (NEAR, ("near", 0)),
        ):
            self.shown(False, web, [0, 1], (1, cut, ("place", 4, trees)))
        lopsided = (4, ((0, 1, 1), (1, 2, 5), (2, 3, 5)))
        deeper = ("place", 1, (NEAR, NEAR))
        self.shown(True, lopsided, [0, 3], (1, [(0, 1)], ("place", 2, (NEAR, deeper))))
        self.shown(True, lopsided, [0, 3], (1, [(0, 1)], ("place", 2, (deeper, NEAR))))
        steep = (5, ((0, 1, 2), (1, 2, 5), (2, 3, 5), (3, 4, 5)))
        self.shown(True, steep, [0, 4], (2, [(0, 1)], ("place", 3, (NEAR, ("place", 2, (NEAR, NEAR))))))
        self.shown(False, steep, [0, 4], (2, [(0, 1)], ("place", 3, (("place", 2, (NEAR, NEAR)), ("place", 3, (NEAR,))))))
        self.shown(False, steep, [0, 4], (2, [(0, 1)], ("place", 3, (("place", 2, (NEAR, NEAR)), NEAR))))

    def test_nodes_of_no_kind(self):
        papers = singles(STAR, [0, 1, 2])
        for tree in (
            "near", ("near"), ["near"], ("near", ()), ("near", 0), ("near", None), ("Near",), ("far",), (b"near".hex(),), (),
            (("near",),), [("near",)], None, 0, True, ("floor",), ("floor", papers, 0), ["floor", papers], ("near", papers),
            (None, papers), (0, papers), ("place",), ("place", 3), ("place", 3, (NEAR,) * 3, ()), ["place", 3, (NEAR,) * 3],
            ("floor", 3, (NEAR,) * 3), ("near", 3, (NEAR,) * 3), (3, (NEAR,) * 3), (("place",), 3, (NEAR,) * 3),
            (["place"], 3, (NEAR,) * 3), ("place", (NEAR,) * 3, 3), ("place", papers), ("floor", (NEAR,) * 3),
        ):
            self.shown(False, STAR, [0, 1, 2], (2, [(0, 3), (1, 3)], tree))
        self.shown(True, STAR, [0, 1, 2], (2, [(0, 3), (1, 3)], ("place", 3, (NEAR,) * 3)))

    def test_cuts(self):
        for cut in (
            [(1, 3), (0, 3)], [(0, 3), (0, 3)], [(3, 0), (3, 1)], [[0, 3], [1, 3]], [(0, 3), (1, 3), (1, 3)], None, "0-3", 2,
            [(0, 1), (0, 3), (1, 3)], [(0, 3), (True, 3)], [(0, 3, 1), (1, 3, 1)], [None], [(0, 3), ([1], 3)], [0, 3],
        ):
            self.shown(False, STAR, [0, 1, 2], (2, cut, NEAR))

    def test_parts_more_or_less(self):
        told = least_parting(TWIN, FOUR)
        for thing in (told[:2], told[1:], told + (0,), told + told, (told,), [told], told[::-1], (), told[2], (told[2],)):
            self.shown(False, TWIN, FOUR, thing)

    def test_bent_trees(self):
        twin = least_parting(TWIN, FOUR)
        mixed = (3, TWIN_CUT, ("place", 5, (NEAR, ("place", 4, (NEAR,) * 4), NEAR, NEAR)))
        self.shown(True, TWIN, FOUR, mixed)
        for told in (twin, mixed):
            for thing in bent(told):
                self.shown(is_so_by_words(TWIN, FOUR, thing), TWIN, FOUR, thing)
        for web, posts in small_webs(316, 20, 5):
            for thing in bent(least_parting(web, posts)):
                self.shown(is_so_by_words(web, posts, thing), web, posts, thing)

    def test_bent_trees_with_floors(self):
        web = (5, tuple((a, b, 2) for a, b, _weight in WIDE_STAR[1]))
        tree = ("place", 4, tuple(("floor", self.papers(web, FOUR, post)) for post in FOUR))
        told = (6, [(0, 4), (1, 4), (2, 4)], tree)
        self.shown(True, web, FOUR, told)
        for thing in bent(told):
            self.shown(is_so_by_words(web, FOUR, thing), web, FOUR, thing)

    def test_things_of_no_kind(self):
        for web, posts in ((STAR, [0, 1, 2]), ((2, ()), [0, 1]), (TWIN, FOUR)):
            for thing in odd_things():
                self.shown(False, web, posts, thing)
                for at in range(3):
                    told = list(least_parting(web, posts))
                    told[at] = thing
                    self.shown(is_so_by_words(web, posts, tuple(told)), web, posts, tuple(told))
                for tree in (("floor", thing), ("place", 4, thing), ("place", thing, (NEAR,) * 4), (thing,), (thing, [])):
                    self.shown(False, TWIN, FOUR, (3, TWIN_CUT, tree))
        for make in (lambda thing: ("place", 4, (thing,) * 4), lambda thing: ("floor", thing), lambda thing: (thing,)):
            self.shown(False, TWIN, FOUR, (3, TWIN_CUT, nested(18, make)))

    def test_knows_nothing_of_how_it_is_found(self):
        told = [(web, posts, least_parting(web, posts)) for web, posts in small_webs(317, 20)]
        with mock.patch("partedweb.flows.greatest_amounts", side_effect=AssertionError):
            for web, posts, one in told:
                self.shown(True, web, posts, one)

    def test_asked_fairly(self):
        asked_fairly(self, shows_least_parting, TWIN, [0, 1, 2, 3], least_parting(TWIN, FOUR))
        asked_fairly(self, shows_least_parting, STAR, [0, 1, 2], (2, [(0, 3), (1, 3)], ("floor", singles(STAR, [0, 1, 2]))))
        asked_fairly(self, shows_least_parting, STAR, [0, 1, 2], (2, [(0, 3), (1, 3)], ("floor", [[[]], []])))


if __name__ == "__main__":
    unittest.main()
