"""[6], with [2] and [3] as far as they speak of it: partings, owners, pruned cuts."""

import unittest
from itertools import combinations

from partedweb.partings import cut_by, is_parting, is_row_of_owners, owners_of, pruned
from partedweb.webs import pieces, weight_of, without
from tests.helpers import Dice, all_owners, asked_fairly, great_web, parts, small_webs, together

RING = (4, ((0, 1, 5), (0, 3, 2), (1, 2, 7), (2, 3, 1)))
ALL = [(0, 1), (0, 3), (1, 2), (2, 3)]
LOOSE = (5, ((0, 1, 4), (1, 3, 4), (2, 4, 1)))


def some_cuts(web, dice):
    pairs = [(a, b) for a, b, _weight in web[1]]
    if len(pairs) <= 6:
        return [list(cut) for many in range(len(pairs) + 1) for cut in combinations(pairs, many)]
    return [pairs] + [sorted(dice.some(pairs, dice.below(len(pairs)))) for _ in range(40)]


def pruned_by_words(web, posts, cut):
    gone = set(cut)
    rest = [tie for tie in web[1] if tie[:2] in gone]
    while rest:
        heaviest = max(weight for _a, _b, weight in rest)
        tie = [one for one in rest if one[2] == heaviest][0]
        rest.remove(tie)
        if parts(web, posts, gone - {tie[:2]}):
            gone = gone - {tie[:2]}
    return sorted(gone)


class IsParting(unittest.TestCase):
    def test_ordinary(self):
        self.assertIs(is_parting(RING, [0, 2], [(0, 1), (2, 3)]), True)
        self.assertIs(is_parting(RING, [0, 2], [(0, 1), (0, 3)]), True)
        self.assertIs(is_parting(RING, [0, 2], [(0, 1), (1, 2)]), False)
        self.assertIs(is_parting(RING, [0, 1, 2], [(0, 1), (1, 2)]), False)
        self.assertIs(is_parting(RING, [0, 1, 2], [(0, 1), (1, 2), (2, 3)]), True)

    def test_empty_cut(self):
        self.assertIs(is_parting(RING, [0, 2], []), False)
        self.assertIs(is_parting(LOOSE, [0, 2], []), True)
        self.assertIs(is_parting(LOOSE, [0, 2, 3], []), False)
        self.assertIs(is_parting((2, ()), [0, 1], []), True)

    def test_cut_of_all_ties(self):
        self.assertIs(is_parting(RING, [0, 1, 2, 3], ALL), True)
        self.assertIs(is_parting(RING, [0, 1, 2, 3], ALL[1:]), False)

    def test_a_tuple_stands_for_a_list(self):
        self.assertIs(is_parting(RING, (0, 2), ((0, 1), (2, 3))), True)
        self.assertIs(is_parting(RING, (0, 2), ((0, 1),)), False)

    def test_by_words(self):
        dice = Dice(12)
        for web, posts in small_webs(11, 60):
            for cut in some_cuts(web, dice):
                self.assertIs(is_parting(web, posts, cut), parts(web, posts, cut))

    def test_asked_fairly(self):
        asked_fairly(self, is_parting, RING, [0, 2], [(0, 1), (2, 3)])


class CutBy(unittest.TestCase):
    def test_ordinary(self):
        self.assertEqual(cut_by(RING, (0, 0, 2, 2)), [(0, 3), (1, 2)])
        self.assertEqual(cut_by(RING, (0, 0, 2, 0)), [(1, 2), (2, 3)])
        self.assertEqual(cut_by(RING, (0, 1, 2, 3)), ALL)
        self.assertEqual(cut_by((2, ()), (0, 1)), [])
        self.assertEqual(cut_by(LOOSE, (0, 0, 2, 0, 2)), [])

    def test_by_words(self):
        for web, posts in small_webs(13, 30, 5):
            for owners in all_owners(web, posts):
                cut = cut_by(web, owners)
                self.assertIs(cut.__class__, list)
                self.assertEqual(cut, sorted(tie[:2] for tie in web[1] if owners[tie[0]] != owners[tie[1]]))
                self.assertIs(is_parting(web, posts, cut), True)

    def test_asked_fairly(self):
        asked_fairly(self, cut_by, RING, (0, 0, 2, 2))
        asked_fairly(self, cut_by, (2, ()), (0, 1))


class IsRowOfOwners(unittest.TestCase):
    def test_ordinary(self):
        for thing, wished in (
            ((0, 0, 2, 2), True), ((0, 2, 2, 0), True), ([0, 0, 2, 2], False), ((0, 0, 2), False), ((0, 0, 2, 2, 2), False),
            ((0, 1, 2, 2), False), ((0, 0, 2, 3), False), ((2, 0, 2, 2), False), ((0, 0, 0, 2), False), (None, False),
            ((False, 0, 2, 2), False), ((0, False, 2, 2), False), ((0, None, 2, 2), False), ((0, [0], 2, 2), False),
        ):
            self.assertIs(is_row_of_owners(RING, [0, 2], thing), wished, thing)


class OwnersOf(unittest.TestCase):
    def test_ordinary(self):
        self.assertEqual(owners_of(RING, [0, 2], [(0, 3), (1, 2)]), (0, 0, 2, 2))
        self.assertEqual(owners_of(RING, [1, 3], [(0, 1), (1, 2)]), (3, 1, 3, 3))
        self.assertEqual(owners_of((2, ()), [0, 1], []), (0, 1))

    def test_a_place_with_no_post_goes_to_the_first(self):
        self.assertEqual(owners_of(RING, [1, 3], ALL), (1, 1, 1, 3))
        self.assertEqual(owners_of(LOOSE, [2, 3], []), (3, 3, 2, 3, 2))
        self.assertEqual(owners_of((4, ()), [2, 3], []), (2, 2, 2, 3))
        self.assertEqual(owners_of((4, ((0, 1, 1),)), [2, 3], []), (2, 2, 2, 3))

    def test_a_tuple_stands_for_a_list(self):
        self.assertEqual(owners_of(RING, (1, 3), tuple(ALL)), (1, 1, 1, 3))

    def test_by_words(self):
        dice = Dice(15)
        for web, posts in small_webs(14, 60):
            for cut in some_cuts(web, dice):
                if parts(web, posts, cut):
                    found = together(web, cut)
                    wished = [([post for post in posts if post in one] + [posts[0]])[0] for one in found]
                    self.assertEqual(owners_of(web, posts, cut), tuple(wished))

    def test_asked_fairly(self):
        asked_fairly(self, owners_of, RING, [0, 2], [(0, 3), (1, 2)])


class Pruned(unittest.TestCase):
    def test_heaviest_first(self):
        self.assertEqual(pruned(RING, [0, 2], ALL), [(0, 1), (2, 3)])
        self.assertEqual(pruned((3, ((0, 1, 1), (1, 2, 9))), [0, 2], [(0, 1), (1, 2)]), [(0, 1)])
        self.assertEqual(pruned((3, ((0, 1, 9), (1, 2, 1))), [0, 2], [(0, 1), (1, 2)]), [(1, 2)])

    def test_of_equal_ones_the_first(self):
        self.assertEqual(pruned((3, ((0, 1, 4), (1, 2, 4))), [0, 2], [(0, 1), (1, 2)]), [(1, 2)])
        even = (4, ((0, 1, 3), (0, 3, 3), (1, 2, 3), (2, 3, 3)))
        self.assertEqual(pruned(even, [0, 2], ALL), [(1, 2), (2, 3)])
        self.assertEqual(pruned(even, [1, 3], ALL), [(0, 3), (2, 3)])

    def test_what_must_stay_stays(self):
        self.assertEqual(pruned(RING, [0, 2], [(0, 1), (2, 3)]), [(0, 1), (2, 3)])
        self.assertEqual(pruned(RING, [0, 1, 2, 3], ALL), ALL)
        self.assertEqual(pruned(LOOSE, [0, 2], []), [])
        self.assertEqual(pruned(LOOSE, [0, 2], [(0, 1), (1, 3), (2, 4)]), [])

    def test_by_words(self):
        dice = Dice(17)
        for web, posts in small_webs(16, 60):
            for cut in some_cuts(web, dice):
                if parts(web, posts, cut):
                    stays = pruned(web, posts, cut)
                    self.assertEqual(stays, pruned_by_words(web, posts, cut))
                    self.assertTrue(parts(web, posts, stays))
                    self.assertFalse([tie for tie in stays if parts(web, posts, [one for one in stays if one != tie])])

    def test_great(self):
        web = great_web(18)
        posts = [0, 5, 10, 15, 20, 29]
        stays = pruned(web, posts, [tie[:2] for tie in web[1]])
        self.assertIs(is_parting(web, posts, stays), True)
        self.assertEqual(len(pieces(without(web, stays))), len(posts) + len(pieces(web)) - 1)
        self.assertGreater(weight_of(web, stays), 0)

    def test_a_tuple_stands_for_a_list(self):
        self.assertEqual(pruned(RING, (0, 2), tuple(ALL)), [(0, 1), (2, 3)])

    def test_told_lists_are_the_askers_own(self):
        asked_fairly(self, pruned, RING, [0, 2], list(ALL))
        asked_fairly(self, pruned, RING, [0, 2], [(0, 1), (2, 3)])
        asked_fairly(self, pruned, LOOSE, [0, 2], [])


if __name__ == "__main__":
    unittest.main()
