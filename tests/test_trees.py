"""[13], with [1], [2] and [3] as far as they speak of it: trees, their least partings, and the checker."""

import time
import unittest

from partedweb.narrow import least_narrow
from partedweb.partings import cut_by, is_parting
from partedweb.trees import is_tree, least_on_tree, shows_on_tree
from partedweb.webs import weight_of
from tests.helpers import (
    Dice, all_owners, asked_fairly, bent, exchanged, nested, odd_things, parts, rows_by_weight, small_webs,
    together,
)

CHAIN = (4, ((0, 1, 5), (1, 2, 2), (2, 3, 7)))
STAR = (5, ((0, 1, 4), (0, 2, 3), (0, 3, 2), (0, 4, 1)))
FORK = (6, ((0, 1, 2), (0, 2, 9), (1, 3, 3), (1, 4, 4), (2, 5, 1)))
GREAT_POSTS = [0, 5, 10, 15, 20, 29]


def behind_by_words(web, place):
    """The places that hang on place 0 by this one alone, itself too."""
    if place == 0:
        return set(range(web[0]))
    found = together(web, [tie[:2] for tie in web[1] if place in tie[:2]])
    return set(range(web[0])) - found[0]


def table_by_words(web, posts):
    """All rows of owners gone through, for each place those of what is behind it alone."""
    table = []
    for place in range(web[0]):
        behind = behind_by_words(web, place)
        ties = [tie for tie in web[1] if tie[0] in behind and tie[1] in behind]
        row = []
        for post in posts:
            weights = [
                sum(weight for a, b, weight in ties if owners[a] != owners[b])
                for owners in all_owners(web, posts) if owners[place] == post
            ]
            row.append(min(weights) if weights else None)
        table.append(row)
    return table


def is_so_by_words(web, posts, table, told):
    """Whether told is what shows_on_tree is to take, of the table that is by words."""
    if told.__class__ is not tuple or len(told) != 3 or told[0].__class__ is not int:
        return False
    weight, owners, rows = told
    if owners.__class__ is not tuple or [owner for owner in owners if owner.__class__ is not int]:
        return False
    if owners not in list(all_owners(web, posts)) or rows.__class__ not in (list, tuple):
        return False
    if [row for row in rows if row.__class__ not in (list, tuple)] or [list(row) for row in rows] != table:
        return False
    if [number for row in rows for number in row if number.__class__ is bool]:
        return False
    return weight == min(rows_by_weight(web, posts)) == weight_of(web, cut_by(web, owners))


def some_trees(seed, rounds, most=7):
    dice = Dice(seed)
    for _ in range(rounds):
        many = 2 + dice.below(most - 1)
        yield dice.tree(many, 1 + dice.below(6)), dice.posts(many, 2 + dice.below(min(many, 4) - 1))


class IsTree(unittest.TestCase):
    def test_ordinary(self):
        for web in (CHAIN, STAR, FORK, (2, ((0, 1, 1),))):
            self.assertIs(is_tree(web), True)
        self.assertIs(is_tree((3, ((0, 1, 1), (0, 2, 1), (1, 2, 1)))), False)

    def test_one_place(self):
        self.assertIs(is_tree((1, ())), True)

    def test_several_pieces(self):
        self.assertIs(is_tree((2, ())), False)
        self.assertIs(is_tree((4, ((0, 1, 1), (0, 2, 1), (1, 2, 1)))), False)
        self.assertIs(is_tree((5, ((0, 1, 1), (2, 3, 1), (2, 4, 1), (3, 4, 1)))), False)
        self.assertIs(is_tree((4, ((0, 1, 1), (2, 3, 1)))), False)

    def test_by_words(self):
        seen = set()
        for web, _posts in small_webs(201, 300):
            wished = len(together(web, [])[0]) == web[0] and len(web[1]) == web[0] - 1
            self.assertIs(is_tree(web), wished)
            seen.add(wished)
        self.assertEqual(seen, {False, True})

    def test_asked_fairly(self):
        asked_fairly(self, is_tree, CHAIN)


class LeastOnTree(unittest.TestCase):
    def test_chain(self):
        weight, owners, table = least_on_tree(CHAIN, [0, 3])
        self.assertEqual((weight, owners), (2, (0, 0, 3, 3)))
        self.assertEqual(table, [[2, None], [2, 0], [7, 0], [None, 0]])

    def test_star(self):
        weight, owners, table = least_on_tree(STAR, [1, 2, 3])
        self.assertEqual((weight, owners[:4]), (5, (1, 1, 2, 3)))
        self.assertEqual(owners[4], 1)
        self.assertEqual(table, [[5, 6, 7], [0, None, None], [None, 0, None], [None, None, 0], [0, 0, 0]])

    def test_place_0_is_a_post_and_none(self):
        self.assertEqual(least_on_tree(FORK, [0, 3, 4])[0], 2 + 3)
        self.assertEqual(least_on_tree(FORK, [0, 3, 4])[2][0], [5, None, None])
        self.assertEqual(least_on_tree(FORK, [3, 4, 5])[0], 1 + 3)
        self.assertEqual(least_on_tree(FORK, [3, 4, 5])[2][0], [5, 4, 5])

    def test_posts_behind_posts(self):
        weight, owners, table = least_on_tree(CHAIN, [0, 1, 3])
        self.assertEqual((weight, owners), (7, (0, 1, 3, 3)))
        self.assertEqual(table, [[7, None, None], [None, 2, None], [7, 7, 0], [None, None, 0]])
        self.assertEqual(least_on_tree(CHAIN, [0, 1, 2, 3])[:2], (14, (0, 1, 2, 3)))

    def test_two_places(self):
        self.assertEqual(least_on_tree((2, ((0, 1, 9),)), (0, 1)), (9, (0, 1), [[9, None], [None, 0]]))

    def test_kinds(self):
        told = least_on_tree(FORK, (3, 4, 5))
        self.assertEqual([told.__class__] + [part.__class__ for part in told], [tuple, int, tuple, list])
        self.assertEqual({row.__class__ for row in told[2]}, {list})

    def test_by_all_rows_of_owners(self):
        for web, posts in some_trees(202, 200):
            weight, owners, table = least_on_tree(web, posts)
            rows = rows_by_weight(web, posts)
            self.assertEqual(weight, min(rows))
            self.assertIn(owners, rows[weight])
            self.assertEqual(table, table_by_words(web, posts))
            self.assertTrue(parts(web, posts, cut_by(web, owners)))

    def test_great_in_little_time(self):
        begun = time.perf_counter()
        dice = Dice(203)
        row = (30, tuple((place, place + 1, 10 ** 9 - place) for place in range(29)))
        star = (30, tuple((0, place, 10 ** 9 - place) for place in range(1, 30)))
        for web in [dice.tree(30, 10 ** 9) for _ in range(20)] + [row, star]:
            told = least_on_tree(web, GREAT_POSTS)
            self.assertIs(shows_on_tree(web, GREAT_POSTS, told), True)
            self.assertIs(is_parting(web, GREAT_POSTS, cut_by(web, told[1])), True)
        self.assertEqual(least_on_tree(row, GREAT_POSTS)[0], 5 * 10 ** 9 - 4 - 9 - 14 - 19 - 28)
        self.assertEqual(least_on_tree(star, GREAT_POSTS)[0], 5 * 10 ** 9 - 5 - 10 - 15 - 20 - 29)
        self.assertLess(time.perf_counter() - begun, 30)

    def test_the_other_ways_agree(self):
        for web, posts in some_trees(204, 60, 9):
            self.assertEqual(least_on_tree(web, posts)[0], least_narrow(web, posts, list(range(web[0])))[0])

    def test_asked_fairly(self):
        asked_fairly(self, least_on_tree, FORK, [3, 4, 5])
        asked_fairly(self, least_on_tree, CHAIN, [0, 1, 3])


class ShowsOnTree(unittest.TestCase):
    def shown(self, wished, web, posts, told):
        self.assertIs(shows_on_tree(web, posts, told), wished, (web, posts, told))

    def test_what_is_told(self):
        for web, posts in some_trees(205, 100):
            weight, owners, table = told = least_on_tree(web, posts)
            self.shown(True, web, posts, told)
            self.shown(True, web, tuple(posts), (weight, owners, tuple(tuple(row) for row in table)))
            self.shown(False, web, posts, list(told))
            self.shown(False, web, posts, (weight, list(owners), table))
            self.shown(False, web, posts, exchanged(told))
            for bad in (weight + 1, weight - 1, None, str(weight)):
                self.shown(False, web, posts, (bad, owners, table))

    def test_any_row_that_weighs_so(self):
        for web, posts in some_trees(206, 60, 6):
            weight, _owners, table = least_on_tree(web, posts)
            for heavy, rows in rows_by_weight(web, posts).items():
                for owners in rows:
                    self.shown(heavy == weight, web, posts, (weight, owners, table))
                    self.shown(heavy == weight, web, posts, (heavy, owners, table))

    def test_owners(self):
        weight, _owners, table = least_on_tree(CHAIN, [0, 3])
        self.shown(True, CHAIN, [0, 3], (weight, (0, 0, 3, 3), table))
        for owners in (
            [0, 0, 3, 3], (0, 0, 3), (0, 0, 3, 3, 3), (0, 0, 2, 3), (0, 3, 3, 3), (3, 3, 0, 0), (False, 0, 3, 3),
            (0, False, 3, 3), (0, None, 3, 3), (0, "0", 3, 3), "0033", None, 0, (), (0, (0,), 3, 3), (0, [0], 3, 3),
            (0, 0, 0, 0), (1, 1, 3, 3), (0, 1, 3, 3),
        ):
            self.shown(False, CHAIN, [0, 3], (weight, owners, table))

    def test_tables(self):
        told = (2, (0, 0, 3, 3), [[2, None], [2, 0], [7, 0], [None, 0]])
        self.shown(True, CHAIN, [0, 3], told)
        for table in (
            [[2, 2], [2, 0], [7, 0], [None, 0]], [[2, None], [2, 0], [7, 0], [0, 0]], [[2, None], [2, None], [7, 0], [None, 0]],
            [[None, None], [2, 0], [7, 0], [None, 0]], [[2, None], [2, 0], [7, 0], [None, None]],
            [[2, None], [2, 0], [7, 0]], [[2, None], [2, 0], [7, 0], [None, 0], [0, 0]], [[2, None], [2, 0], [7, 0], [None]],
            [[2, None, 0], [2, 0], [7, 0], [None, 0]], [[2, None], [2, 0], [7, False], [None, 0]],
            [[2, None], [2, 0], [7, 0], [None, False]], [[2, False], [2, 0], [7, 0], [None, 0]],
            [[3, None], [2, 0], [7, 0], [None, 0]], [[2, None], [3, 0], [7, 0], [None, 0]],
            [[2, None], [2, 0], [8, 0], [None, 0]], [[2, None], [2, 0], [7, 1], [None, 0]],
            [[2, None], [2, 0], [7, 0], [None, 1]], [[2, None], [2, 0], [7, 0], [None, "0"]], [[], [], [], []], [], None,
            "table", 0, [None] * 4, [[2, None], [2, 0], [7, 0], None], [[2, None], [2, 0], [7, [0]], [None, 0]],
            [[3, None], [3, 1], [8, 1], [None, 1]],
        ):
            self.shown(False, CHAIN, [0, 3], told[:2] + (table,))
        self.shown(False, CHAIN, [0, 3], (3, (0, 0, 3, 3), [[3, None], [3, 1], [8, 1], [None, 1]]))

    def test_true_and_false_are_no_weights(self):
        web = (2, ((0, 1, 1),))
        self.shown(True, web, [0, 1], (1, (0, 1), [[1, None], [None, 0]]))
        self.shown(False, web, [0, 1], (True, (0, 1), [[1, None], [None, 0]]))
        self.shown(False, web, [0, 1], (1, (0, True), [[1, None], [None, 0]]))
        self.shown(False, web, [0, 1], (1, (0, 1), [[True, None], [None, 0]]))

    def test_parts_more_or_less(self):
        told = least_on_tree(FORK, [3, 4, 5])
        for thing in (told[:2], told[1:], told + (0,), told + told, (told,), [told], told[::-1], ()):
            self.shown(False, FORK, [3, 4, 5], thing)

    def test_bent_papers(self):
        for web, posts in some_trees(207, 20, 6):
            told = least_on_tree(web, posts)
            table = table_by_words(web, posts)
            for thing in bent(told):
                self.shown(is_so_by_words(web, posts, table, thing), web, posts, thing)

    def test_things_of_no_kind(self):
        for web, posts in ((CHAIN, [0, 3]), (STAR, [1, 2, 3]), ((2, ((0, 1, 1),)), [0, 1])):
            table = table_by_words(web, posts)
            for thing in odd_things():
                self.shown(False, web, posts, thing)
                for at in range(3):
                    told = list(least_on_tree(web, posts))
                    told[at] = thing
                    self.shown(is_so_by_words(web, posts, table, tuple(told)), web, posts, tuple(told))
        deep = nested(37, lambda thing: [thing])
        self.shown(False, CHAIN, [0, 3], (2, (0, 0, 3, 3), [[2, deep], [2, 0], [7, 0], [None, 0]]))

    def test_asked_fairly(self):
        asked_fairly(self, shows_on_tree, FORK, [3, 4, 5], least_on_tree(FORK, [3, 4, 5]))
        asked_fairly(self, shows_on_tree, FORK, [3, 4, 5], (1, (2,), [[], [3]]))


if __name__ == "__main__":
    unittest.main()
