"""[1], and [2] and [3] over the whole: all ways to one web held against one another, and the interface."""

import importlib
import inspect
import unittest

from partedweb.alls import all_least, always_cut, count_least, ever_cut, second_least
from partedweb.boundcheck import shows_least_parting
from partedweb.bounding import least_parting
from partedweb.desk import desk_told
from partedweb.errors import BadRow, NoPlace, NoPost, PartError, TooMany
from partedweb.keeper import Keeper
from partedweb.leastshares import least_shares
from partedweb.narrow import flat, least_narrow, row_order
from partedweb.paircheck import shows_for_pairs
from partedweb.pairs import least_for_pairs, pairs_of, parts_pairs
from partedweb.partings import cut_by, is_parting, owners_of, pruned
from partedweb.pulls import shows_least_shares
from partedweb.rounding import rounded, shows_rounded
from partedweb.shares import cost_of, even_shares, shares_by
from partedweb.sheet import web_from, web_text
from partedweb.shrinking import shrunk
from partedweb.singles import by_singles, shows_by_singles
from partedweb.treepairs import pairs_on_tree, shows_on_tree_pairs
from partedweb.trees import is_tree, least_on_tree, shows_on_tree
from partedweb.webs import weight_of
from tests.helpers import Dice, least_weight, parts, rows_by_weight, small_webs

INTERFACE = {
    "webs": {
        "is_web": "thing", "weight_of": "web cut", "without": "web cut", "pieces": "web", "merged": "web names",
    },
    "partings": {
        "is_parting": "web posts cut", "cut_by": "web owners", "owners_of": "web posts cut", "pruned": "web posts cut",
    },
    "flows": {
        "flow": "web sources sinks", "wide_side": "web sources sinks", "side_weight": "web side",
        "shows_flow": "web sources sinks told",
    },
    "singles": {"singles": "web posts", "by_singles": "web posts", "shows_by_singles": "web posts told"},
    "shrinking": {"shrunk": "web posts"},
    "shares": {
        "is_shares": "web posts thing", "cost_of": "web shares", "cost_at": "web shares l", "shares_by": "posts owners",
        "even_shares": "web posts", "mixed": "one other part",
    },
    "rounding": {
        "owners_by": "posts shares order threshold", "thresholds": "shares", "rounded": "web posts shares",
        "shows_rounded": "web posts shares told",
    },
    "pulls": {"floor_by": "web posts pulls", "shows_least_shares": "web posts told"},
    "leastshares": {"least_shares": "web posts"},
    "trees": {"is_tree": "web", "least_on_tree": "web posts", "shows_on_tree": "web posts told"},
    "narrow": {
        "width_of": "web order", "least_narrow": "web posts order", "flat": "wide high weights", "row_order": "wide high",
    },
    "bounding": {"least_parting": "web posts"},
    "boundcheck": {"shows_least_parting": "web posts told"},
    "alls": {
        "all_least": "web posts", "count_least": "web posts", "always_cut": "web posts", "ever_cut": "web posts",
        "second_least": "web posts",
    },
    "pairs": {"pairs_of": "groups", "parts_pairs": "web pairs cut", "least_for_pairs": "web pairs"},
    "paircheck": {"shows_for_pairs": "web pairs told"},
    "treepairs": {"pairs_on_tree": "web pairs", "shows_on_tree_pairs": "web pairs told"},
    "keeper": {"Keeper": "web posts"},
    "sheet": {"web_text": "web posts", "web_from": "text"},
    "desk": {"desk_told": "text"},
}
DEEDS = {
    "web_now": "", "posts_now": "", "singles_now": "", "parting_now": "", "weigh": "a b weight", "put_post": "place",
    "take_post": "place", "looked": "", "undo": "",
}


def parameters(thing):
    return " ".join(inspect.signature(thing).parameters)


def few_ties(seed, rounds):
    """Webs within the bounds of all stages at once."""
    for web, posts in small_webs(seed, rounds, 7):
        if len(web[1]) <= 9 and len(posts) <= 4 and web[0] - len(posts) <= 4:
            yield web, posts


class Interface(unittest.TestCase):
    def test_names_and_arguments(self):
        for file, names in INTERFACE.items():
            module = importlib.import_module(f"partedweb.{file}")
            for name, wished in names.items():
                self.assertEqual(parameters(getattr(module, name)), wished, (file, name))

    def test_keeper(self):
        for name, wished in DEEDS.items():
            self.assertEqual(parameters(getattr(Keeper((2, ()), [0, 1]), name)), wished, name)

    def test_refusals(self):
        self.assertEqual(PartError.__bases__, (ValueError,))
        for refusal in (TooMany, NoPost, NoPlace, BadRow):
            self.assertEqual(refusal.__bases__, (PartError,))
        self.assertEqual(BadRow(7).row, 7)


class OneWeb(unittest.TestCase):
    def test_what_is_least_is_so_by_all_ways(self):
        trees = 0
        for web, posts in few_ties(901, 150):
            rows = rows_by_weight(web, posts)
            least = min(rows)
            self.assertEqual(least_parting(web, posts)[0], least)
            self.assertEqual(least_narrow(web, posts, row_order(web[0], 1))[::2], (least, len(rows[least])))
            self.assertEqual({weight_of(web, cut) for cut in all_least(web, posts)}, {least})
            self.assertEqual(least_for_pairs(web, pairs_of([posts]))[0], least)
            self.assertEqual(desk_told(web_text(web, posts) + "\nleast"), [str(least)])
            self.assertEqual(second_least(web, posts), min([weight for weight in rows if weight > least], default=None))
            less, names = shrunk(web, posts)
            self.assertEqual(least_parting(less, [names[post] for post in posts])[0], least)
            if is_tree(web):
                trees += 1
                self.assertEqual(least_on_tree(web, posts)[0], least)
        self.assertGreater(trees, 5)

    def test_each_told_parting_parts_and_weighs_so(self):
        for web, posts in few_ties(902, 150):
            shares = least_shares(web, posts)[1]
            told = [least_parting(web, posts)[:2], by_singles(web, posts)[:2], Keeper(web, posts).parting_now()]
            told += [rounded(web, posts, shares)[:2], rounded(web, posts, even_shares(web, posts))[:2]]
            told += [least_for_pairs(web, pairs_of([posts]))[:2]]
            told += [(weight_of(web, cut), cut) for cut in all_least(web, posts)]
            if is_tree(web):
                weight, owners, _table = least_on_tree(web, posts)
                told += [(weight, cut_by(web, owners)), pairs_on_tree(web, pairs_of([posts]))[:2]]
            ties = {(a, b): heavy for a, b, heavy in web[1]}
            for weight, cut in told:
                self.assertTrue(parts(web, posts, cut))
                self.assertIs(is_parting(web, posts, cut), True)
                self.assertIs(parts_pairs(web, pairs_of([posts]), cut), True)
                self.assertEqual(weight, sum(ties[pair] for pair in cut))
                self.assertLessEqual(weight_of(web, pruned(web, posts, cut)), weight)
                self.assertLessEqual(weight_of(web, cut_by(web, owners_of(web, posts, cut))), weight)

    def test_how_far_from_the_least(self):
        for web, posts in few_ties(903, 150):
            least, many = least_weight(web, posts), len(posts)
            weight, _cut, papers = by_singles(web, posts)
            self.assertLessEqual(sum(paper[0] for paper in papers), 2 * least)
            self.assertLessEqual(many * weight, (2 * many - 2) * least)
            (top, below), shares, _pulls = least_shares(web, posts)
            self.assertLessEqual(top, below * least)
            self.assertLessEqual(2 * many * below * rounded(web, posts, shares)[0], (3 * many - 2) * top)
            even = even_shares(web, posts)
            cost = cost_of(web, even)
            self.assertLessEqual(2 * many * cost[1] * rounded(web, posts, even)[0], (3 * many - 2) * cost[0])
            owners = owners_of(web, posts, least_parting(web, posts)[1])
            self.assertEqual(cost_of(web, shares_by(posts, owners)), (least, 1))

    def test_papers_are_taken(self):
        for web, posts in few_ties(904, 60):
            pairs = pairs_of([posts])
            shares = least_shares(web, posts)
            self.assertIs(shows_by_singles(web, posts, by_singles(web, posts)), True)
            self.assertIs(shows_least_shares(web, posts, shares), True)
            self.assertIs(shows_rounded(web, posts, shares[1], rounded(web, posts, shares[1])), True)
            self.assertIs(shows_least_parting(web, posts, least_parting(web, posts)), True)
            self.assertIs(shows_for_pairs(web, pairs, least_for_pairs(web, pairs)), True)
            keeper = Keeper(web, posts)
            self.assertIs(shows_by_singles(web, posts, keeper.parting_now() + (keeper.singles_now(),)), True)
            if is_tree(web):
                self.assertIs(shows_on_tree(web, posts, least_on_tree(web, posts)), True)
                self.assertIs(shows_on_tree_pairs(web, pairs, pairs_on_tree(web, pairs)), True)

    def test_trees(self):
        dice = Dice(905)
        for _ in range(40):
            web = dice.tree(8, 1 + dice.below(9))
            posts = dice.posts(8, 2 + dice.below(3))
            least = least_on_tree(web, posts)[0]
            self.assertEqual(least_parting(web, posts)[0], least)
            self.assertEqual(least_narrow(web, posts, row_order(8, 1))[0], least)
            self.assertEqual(least_for_pairs(web, pairs_of([posts]))[0], least)
            weight, _cut, amounts = pairs_on_tree(web, pairs_of([posts]))
            self.assertTrue(sum(amounts) <= least <= weight <= 2 * least)
            self.assertIn(cut_by(web, least_on_tree(web, posts)[1]), all_least(web, posts))

    def test_flat_webs(self):
        dice = Dice(906)
        for _ in range(25):
            web = flat(3, 3, [1 + dice.below(5) for _ in range(12)])
            posts = dice.posts(9, 3 + dice.below(2))
            weight, owners, _many = least_narrow(web, posts, row_order(3, 3))
            self.assertEqual(least_parting(web, posts)[0], weight)
            self.assertIn(cut_by(web, owners), all_least(web, posts))
            self.assertEqual(least_for_pairs(web, pairs_of([posts]))[0], weight)
            told = desk_told(web_text(web, posts) + "\nleast\nlists\nsingly")
            self.assertEqual(told[0], str(weight))
            self.assertEqual(len(told[1].split(" ; ")), count_least(web, posts))
            self.assertEqual(told[2].split(" : ")[0], str(by_singles(web, posts)[0]))

    def test_a_desk_tells_what_the_rest_tells(self):
        for web, posts in few_ties(907, 80):
            singles, singly, least, lists, always, ever = desk_told(
                web_text(web, posts) + "\nsingles\nsingly\nleast\nlists\nalways\never"
            )
            papers = by_singles(web, posts)[2]
            self.assertEqual(singles, " ".join(f"{post}:{paper[0]}" for post, paper in zip(posts, papers)))
            self.assertEqual(singly.split(" : ")[0], str(by_singles(web, posts)[0]))
            self.assertEqual(self.cut_of(singly.split(" : ")[1]), by_singles(web, posts)[1])
            self.assertEqual(least, str(least_parting(web, posts)[0]))
            self.assertEqual([self.cut_of(text) for text in lists.split(" ; ")], all_least(web, posts))
            self.assertEqual(self.cut_of(always), always_cut(web, posts))
            self.assertEqual(self.cut_of(ever), ever_cut(web, posts))

    def cut_of(self, text):
        """The cut that a desk writes."""
        return [tuple(int(place) for place in pair.split("-")) for pair in text.split(" ")] if text != "-" else []

    def test_a_change_leaves_what_finding_all_anew_would(self):
        dice = Dice(908)
        for web, posts in few_ties(909, 40):
            keeper = Keeper(web, posts)
            rows = []
            for _ in range(6):
                a, b = sorted(dice.some(range(web[0]), 2))
                weight = dice.below(5)
                keeper.weigh(a, b, weight)
                rows.append(f"tie {a} {b} {weight}")
                now = (keeper.web_now(), keeper.posts_now())
                self.assertEqual(web_from(web_text(*now)), now)
                asks = "\nsingles\nsingly\nleast\npieces"
                told = desk_told("\n".join([web_text(web, posts)] + rows) + asks)
                self.assertEqual(told[len(rows):], desk_told(web_text(*now) + asks))
                self.assertEqual(keeper.parting_now(), by_singles(*now)[:2])


if __name__ == "__main__":
    unittest.main()
