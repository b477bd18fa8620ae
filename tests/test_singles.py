"""[8], and [1], [2], [3] as far as they speak of it: single cuts, the parting they make, its checker."""

import time
import unittest

from partedweb.flows import flow
from partedweb.partings import is_parting, pruned
from partedweb.singles import by_singles, shows_by_singles, singles
from partedweb.webs import weight_of
from tests.helpers import (
    asked_fairly, bent, exchanged, great_web, is_cut_by_words, is_flow_by_words, least_sides, least_weight, odd_things,
    parts, small_webs,
)

STAR = (4, ((0, 3, 5), (1, 3, 5), (2, 3, 5)))
HANGING = (4, ((0, 1, 5), (0, 2, 5), (1, 3, 1), (2, 3, 1)))
GREAT_POSTS = [0, 5, 10, 15, 20, 29]


def rest_of(posts, post):
    return [other for other in posts if other != post]


def is_so_by_words(web, posts, told):
    """Whether told is what shows_by_singles is to take."""
    if told.__class__ is not tuple or len(told) != 3 or told[0].__class__ is not int:
        return False
    weight, cut, papers = told
    if papers.__class__ not in (list, tuple) or len(papers) != len(posts):
        return False
    if not is_cut_by_words(web, cut) or not parts(web, posts, cut):
        return False
    ties = {(a, b): heavy for a, b, heavy in web[1]}
    if not all(is_flow_by_words(web, [post], rest_of(posts, post), paper) for post, paper in zip(posts, papers)):
        return False
    values = sum(paper[0] for paper in papers)
    return weight == sum(ties[pair] for pair in cut) and weight * len(posts) <= values * (len(posts) - 1)


class Singles(unittest.TestCase):
    def test_ordinary(self):
        told = singles(HANGING, [0, 1, 2])
        self.assertEqual([(value, side) for value, _amounts, side in told], [(10, [0]), (6, [1]), (6, [2])])
        self.assertEqual(singles((2, ((0, 1, 3),)), [0, 1]), [(3, [3], [0]), (3, [-3], [1])])

    def test_each_place_is_a_post(self):
        told = singles((3, ((0, 1, 1), (1, 2, 4))), [0, 1, 2])
        self.assertEqual([(value, side) for value, _amounts, side in told], [(1, [0]), (5, [1]), (4, [2])])

    def test_several_pieces(self):
        told = singles((4, ((0, 1, 2),)), (1, 2))
        self.assertEqual(told, [(0, [0], [0, 1]), (0, [0], [2])])

    def test_is_what_flow_tells(self):
        for web, posts in small_webs(31, 60):
            told = singles(web, posts)
            self.assertIs(told.__class__, list)
            self.assertEqual(told, [flow(web, [post], rest_of(posts, post)) for post in posts])
            self.assertEqual(singles(web, tuple(posts)), told)

    def test_what_follows(self):
        for web, posts in small_webs(32, 150):
            told = singles(web, posts)
            self.assertGreaterEqual(2 * least_weight(web, posts), sum(value for value, _amounts, _side in told))
            places = [place for _value, _amounts, side in told for place in side]
            self.assertEqual(len(places), len(set(places)))
            for post, (value, _amounts, _side) in zip(posts, told):
                self.assertEqual(value, least_sides(web, [post], rest_of(posts, post))[0])

    def test_asked_fairly(self):
        asked_fairly(self, singles, HANGING, [0, 1, 2])
        asked_fairly(self, singles, (3, ()), [0, 1, 2])


class BySingles(unittest.TestCase):
    def test_the_first_greatest_is_left_out(self):
        self.assertEqual(by_singles(STAR, [0, 1, 2])[:2], (10, [(1, 3), (2, 3)]))
        self.assertEqual(by_singles((4, ((0, 3, 5), (1, 3, 6), (2, 3, 6))), [0, 1, 2])[:2], (11, [(0, 3), (2, 3)]))
        self.assertEqual(by_singles((4, ((0, 3, 5), (1, 3, 6), (2, 3, 7))), [0, 1, 2])[:2], (11, [(0, 3), (1, 3)]))

    def test_two_posts(self):
        self.assertEqual(by_singles((3, ((0, 1, 3), (1, 2, 3))), [0, 2])[:2], (3, [(1, 2)]))
        self.assertEqual(by_singles((3, ((0, 1, 2), (1, 2, 3))), [0, 2])[:2], (2, [(0, 1)]))
        self.assertEqual(by_singles((2, ((0, 1, 3),)), [0, 1]), (3, [(0, 1)], [(3, [3], [0]), (3, [-3], [1])]))
        for web, posts in small_webs(33, 80):
            self.assertEqual(by_singles(web, posts[:2])[0], least_weight(web, posts[:2]))

    def test_pruned(self):
        self.assertEqual(by_singles(HANGING, [0, 1, 2])[:2], (11, [(0, 1), (0, 2), (2, 3)]))

    def test_each_place_is_a_post(self):
        web = (3, ((0, 1, 1), (0, 2, 3), (1, 2, 4)))
        self.assertEqual(by_singles(web, [0, 1, 2])[:2], (8, [(0, 1), (0, 2), (1, 2)]))

    def test_nothing_to_cut(self):
        self.assertEqual(by_singles((3, ()), [0, 2]), (0, [], [(0, [], [0]), (0, [], [2])]))
        self.assertEqual(by_singles((4, ((0, 1, 2),)), [1, 2])[:2], (0, []))

    def test_by_words(self):
        for web, posts in small_webs(34, 150):
            weight, cut, papers = by_singles(web, tuple(posts))
            self.assertEqual(papers, singles(web, posts))
            values = [paper[0] for paper in papers]
            out = [at for at in range(len(posts)) if values[at] == max(values)][0]
            rims = set()
            for at, (_value, _amounts, side) in enumerate(papers):
                if at != out:
                    rims |= {(a, b) for a, b, _weight in web[1] if len({a, b} & set(side)) == 1}
            self.assertEqual(cut, pruned(web, posts, sorted(rims)))
            self.assertEqual(weight, weight_of(web, cut))

    def test_bounds(self):
        for web, posts in small_webs(35, 200):
            weight, cut, papers = by_singles(web, posts)
            many = len(posts)
            self.assertTrue(parts(web, posts, cut))
            self.assertEqual(weight, sum(heavy for a, b, heavy in web[1] if (a, b) in cut))
            self.assertLessEqual(many * weight, (2 * many - 2) * least_weight(web, posts))
            self.assertLessEqual(many * weight, (many - 1) * sum(paper[0] for paper in papers))

    def test_great_webs_in_little_time(self):
        begun = time.perf_counter()
        for seed in range(36, 46):
            web = great_web(seed)
            told = by_singles(web, GREAT_POSTS)
            self.assertIs(is_parting(web, GREAT_POSTS, told[1]), True)
            self.assertTrue(is_so_by_words(web, GREAT_POSTS, told))
            self.assertIs(shows_by_singles(web, GREAT_POSTS, told), True)
        self.assertLess(time.perf_counter() - begun, 30)

    def test_asked_fairly(self):
        asked_fairly(self, by_singles, HANGING, [0, 1, 2])
        asked_fairly(self, by_singles, (3, ()), [0, 1, 2])


class ShowsBySingles(unittest.TestCase):
    def shown(self, wished, web, posts, told):
        self.assertIs(shows_by_singles(web, posts, told), wished, (web, posts, told))

    def test_what_is_told(self):
        for web, posts in small_webs(37, 100):
            weight, cut, papers = by_singles(web, posts)
            self.shown(True, web, posts, (weight, cut, papers))
            self.shown(True, web, tuple(posts), (weight, tuple(cut), tuple(papers)))
            self.shown(False, web, posts, [weight, cut, papers])
            self.shown(False, web, posts, (weight, cut, [list(paper) for paper in papers]))
            self.shown(False, web, posts, exchanged((weight, cut, papers)))
            for bad in (weight + 1, weight - 1, None, str(weight)):
                self.shown(False, web, posts, (bad, cut, papers))

    def test_any_parting_within_the_bound(self):
        papers = singles(STAR, [0, 1, 2])
        for cut in ([(0, 3), (1, 3)], [(0, 3), (2, 3)], [(1, 3), (2, 3)]):
            self.shown(True, STAR, [0, 1, 2], (10, cut, papers))
        self.shown(False, STAR, [0, 1, 2], (15, [(0, 3), (1, 3), (2, 3)], papers))
        even = (5, ((0, 3, 5), (1, 3, 5), (2, 3, 5), (3, 4, 1)))
        self.shown(False, even, [0, 1, 2], (11, [(1, 3), (2, 3), (3, 4)], singles(even, [0, 1, 2])))

    def test_any_side_of_that_weight(self):
        chain = (3, ((0, 1, 3), (1, 2, 3)))
        self.shown(True, chain, [0, 2], (3, [(0, 1)], [(3, [3, 3], [0, 1]), (3, [-3, -3], [1, 2])]))
        self.shown(False, chain, [0, 2], (3, [(0, 1)], [(3, [3, 3], [0, 1]), (3, [-3, -3], [2, 1])]))

    def test_cuts(self):
        papers = singles(STAR, [0, 1, 2])
        for weight, cut in (
            (10, [(1, 3), (0, 3)]), (10, [(0, 3), (0, 3)]), (10, [(3, 0), (3, 1)]), (10, [[0, 3], [1, 3]]), (5, [(0, 3)]),
            (10, [(0, 3), (1, 3), (1, 3)]), (0, []), (10, [(0, 1), (0, 3), (1, 3)]), (10, [(False, 3), (True, 3)]),
            (10, [(0, 3), (True, 3)]), (10, [(0, 3, 5), (1, 3, 5)]), (10, None), (10, "0-3"), (10, 10), (10, [None]),
            (10, [(0, 3), ([1], 3)]), (10, [(0, 3), (1, "3")]), (10, [(0, 3), ()]), (10, [(0,), (1, 3)]), (10, [0, 3]),
        ):
            self.shown(False, STAR, [0, 1, 2], (weight, cut, papers))

    def test_papers(self):
        weight, cut, papers = by_singles(HANGING, [0, 1, 2])
        for bad in (
            papers[:2], papers[1:], papers + papers[:1], papers[::-1], [papers[0], papers[0], papers[2]], [], None, 0, "x",
            [None, None, None], papers[:2] + [papers[2][:2]], (papers,), [papers[0], papers[1], list(papers[2])],
        ):
            self.shown(False, HANGING, [0, 1, 2], (weight, cut, bad))

    def test_true_is_no_weight(self):
        web = (2, ((0, 1, 1),))
        papers = singles(web, [0, 1])
        self.shown(True, web, [0, 1], (1, [(0, 1)], papers))
        self.shown(False, web, [0, 1], (True, [(0, 1)], papers))
        self.shown(False, web, [0, 1], (1, [(False, True)], papers))
        self.shown(False, web, [0, 1], (1, [(0, 1)], [(True, [1], [0]), papers[1]]))
        self.shown(False, (2, ()), [0, 1], (False, [], singles((2, ()), [0, 1])))
        self.shown(True, (2, ()), [0, 1], (0, [], singles((2, ()), [0, 1])))

    def test_bent_papers(self):
        for web, posts in small_webs(38, 20, 5):
            told = by_singles(web, posts)
            for thing in bent(told):
                self.shown(is_so_by_words(web, posts, thing), web, posts, thing)

    def test_things_of_no_kind(self):
        for web, posts in ((STAR, [0, 1, 2]), ((2, ()), [0, 1])):
            for thing in odd_things():
                self.shown(False, web, posts, thing)
                for at in range(3):
                    told = list(by_singles(web, posts))
                    told[at] = thing
                    self.shown(is_so_by_words(web, posts, tuple(told)), web, posts, tuple(told))

    def test_asked_fairly(self):
        asked_fairly(self, shows_by_singles, HANGING, [0, 1, 2], by_singles(HANGING, [0, 1, 2]))
        asked_fairly(self, shows_by_singles, HANGING, [0, 1, 2], [[[]], [(0, 1)], []])


if __name__ == "__main__":
    unittest.main()
