"""[19], with [1], [2] and [3] as far as they speak of it: single cuts kept while ties and posts change."""

import time
import unittest
from copy import deepcopy

from partedweb.errors import NoPlace, NoPost, PartError
from partedweb.keeper import Keeper
from partedweb.singles import by_singles, shows_by_singles, singles
from partedweb.webs import is_web
from tests.helpers import Dice, great_web, is_flow_by_words, least_sides, lists_in, small_webs

CHAIN = (4, ((0, 1, 5), (1, 2, 2), (2, 3, 7)))
STAR = (4, ((0, 3, 5), (1, 3, 5), (2, 3, 5)))
RING = (4, ((0, 1, 5), (0, 3, 2), (1, 2, 7), (2, 3, 1)))
GREAT_POSTS = [0, 5, 10, 15, 20, 29]


def rest_of(posts, post):
    return [other for other in posts if other != post]


def values_of(web, posts):
    return {post: paper[0] for post, paper in zip(posts, singles(web, posts))}


def otherwise(old, new):
    """The tuples of all single values that are otherwise, by two pairs of a web and its posts."""
    before, now = values_of(*old), values_of(*new)
    every = sorted(set(before) | set(now))
    return [(post, before.get(post), now.get(post)) for post in every if before.get(post) != now.get(post)]


def weighed(web, a, b, weight):
    ties = {tie[:2]: tie[2] for tie in web[1]}
    ties[a, b] = weight
    return (web[0], tuple(sorted(pair + (heavy,) for pair, heavy in ties.items() if heavy)))


def looked_by_words(web, posts, a, b, weight):
    """The posts whose single cuts are to be found anew when a tie weighs so much."""
    old = {tie[:2]: tie[2] for tie in web[1]}.get((a, b), 0)
    ends = {post: len({a, b} & set(paper[2])) for post, paper in zip(posts, singles(web, posts))}
    if weight > old:
        return [post for post in posts if ends[post] == 1]
    return [post for post in posts if ends[post] != 1] if weight < old else []


def state_of(keeper):
    return repr((keeper.web_now(), keeper.posts_now(), keeper.singles_now(), keeper.parting_now(), keeper.looked()))


class KeeperCase(unittest.TestCase):
    def holds(self, keeper, web, posts):
        """A keeper tells what finding all anew would."""
        self.assertEqual(keeper.web_now(), web)
        self.assertIs(is_web(keeper.web_now()), True)
        self.assertEqual(keeper.posts_now(), posts)
        papers = keeper.singles_now()
        self.assertEqual([paper[::2] for paper in papers], [paper[::2] for paper in singles(web, posts)])
        for post, paper in zip(posts, papers):
            self.assertTrue(is_flow_by_words(web, [post], rest_of(posts, post), paper), (web, posts, post, paper))
            self.assertEqual([part.__class__ for part in paper], [int, list, list])
        self.assertEqual(keeper.parting_now(), by_singles(web, posts)[:2])


class AtFirst(KeeperCase):
    def test_what_is_kept(self):
        for web, posts in list(small_webs(601, 40)) + [((3, ()), [0, 2]), ((3, ((0, 1, 1), (1, 2, 1))), [0, 1, 2])]:
            keeper = Keeper(web, posts)
            self.holds(keeper, web, posts)
            self.assertEqual(keeper.looked(), [])
            self.assertIsNone(keeper.undo())
            self.holds(Keeper(web, tuple(posts)), web, posts)

    def test_kinds(self):
        keeper = Keeper(STAR, (0, 1, 2))
        self.assertEqual(keeper.web_now().__class__, tuple)
        self.assertEqual(keeper.posts_now().__class__, list)
        self.assertEqual(keeper.singles_now().__class__, list)
        self.assertEqual({paper.__class__ for paper in keeper.singles_now()}, {tuple})
        told = keeper.parting_now()
        self.assertEqual([told.__class__] + [part.__class__ for part in told], [tuple, int, list])
        self.assertEqual(keeper.looked().__class__, list)

    def test_parting(self):
        self.assertEqual(Keeper(STAR, [0, 1, 2]).parting_now(), (10, [(1, 3), (2, 3)]))
        self.assertEqual(Keeper((3, ()), [0, 1, 2]).parting_now(), (0, []))


class Weigh(KeeperCase):
    def test_more_and_less(self):
        keeper = Keeper(CHAIN, [0, 3])
        self.assertEqual(keeper.weigh(1, 2, 4), [(0, 2, 4), (3, 2, 4)])
        self.assertEqual(keeper.looked(), [0, 3])
        self.holds(keeper, (4, ((0, 1, 5), (1, 2, 4), (2, 3, 7))), [0, 3])
        self.assertEqual(keeper.weigh(1, 2, 1), [(0, 4, 1), (3, 4, 1)])
        self.assertEqual(keeper.looked(), [])
        self.holds(keeper, (4, ((0, 1, 5), (1, 2, 1), (2, 3, 7))), [0, 3])

    def test_more_with_both_or_none_of_its_ends_on_a_side(self):
        keeper = Keeper(CHAIN, [0, 3])
        self.assertEqual([paper[2] for paper in keeper.singles_now()], [[0, 1], [2, 3]])
        self.assertEqual(keeper.weigh(0, 1, 9), [])
        self.assertEqual(keeper.looked(), [])
        self.holds(keeper, (4, ((0, 1, 9), (1, 2, 2), (2, 3, 7))), [0, 3])

    def test_less_with_both_or_none_of_its_ends_on_a_side(self):
        keeper = Keeper(CHAIN, [0, 3])
        self.assertEqual(keeper.weigh(0, 1, 3), [])
        self.assertEqual(keeper.looked(), [0, 3])
        self.assertEqual(keeper.weigh(0, 1, 1), [(0, 2, 1), (3, 2, 1)])
        self.assertEqual(keeper.looked(), [0, 3])
        self.holds(keeper, (4, ((0, 1, 1), (1, 2, 2), (2, 3, 7))), [0, 3])

    def test_less_with_one_of_its_ends_on_some_sides(self):
        keeper = Keeper(STAR, [0, 1, 2])
        self.assertEqual([paper[2] for paper in keeper.singles_now()], [[0], [1], [2]])
        self.assertEqual(keeper.weigh(0, 3, 2), [(0, 5, 2)])
        self.assertEqual(keeper.looked(), [1, 2])
        self.holds(keeper, (4, ((0, 3, 2), (1, 3, 5), (2, 3, 5))), [0, 1, 2])
        self.assertEqual(keeper.weigh(0, 3, 6), [(0, 2, 6)])
        self.assertEqual(keeper.looked(), [0])

    def test_a_tie_that_is_new(self):
        keeper = Keeper((3, ()), [0, 2])
        self.assertEqual(keeper.weigh(0, 1, 4), [])
        self.assertEqual(keeper.looked(), [0])
        self.assertEqual(keeper.weigh(1, 2, 3), [(0, 0, 3), (2, 0, 3)])
        self.assertEqual(keeper.looked(), [0, 2])
        self.holds(keeper, (3, ((0, 1, 4), (1, 2, 3))), [0, 2])
        self.assertEqual(keeper.weigh(0, 2, 10 ** 9), [(0, 3, 10 ** 9 + 3), (2, 3, 10 ** 9 + 3)])
        self.holds(keeper, (3, ((0, 1, 4), (0, 2, 10 ** 9), (1, 2, 3))), [0, 2])

    def test_a_tie_that_is_none_any_more(self):
        keeper = Keeper(RING, [0, 2])
        self.assertEqual(keeper.weigh(0, 1, 0), [(0, 6, 1), (2, 6, 1)])
        self.holds(keeper, (4, ((0, 3, 2), (1, 2, 7), (2, 3, 1))), [0, 2])
        self.assertEqual(keeper.weigh(1, 2, 0), [])
        self.assertEqual(keeper.weigh(0, 3, 0), [(0, 1, 0), (2, 1, 0)])
        self.assertEqual(keeper.weigh(2, 3, 0), [])
        self.holds(keeper, (4, ()), [0, 2])

    def test_nothing_is_changed(self):
        keeper = Keeper(RING, [0, 2])
        keeper.weigh(0, 1, 6)
        self.assertEqual(keeper.looked(), [0, 2])
        before = state_of(keeper)
        self.assertEqual(keeper.weigh(0, 1, 6), [])
        self.assertEqual(keeper.looked(), [])
        self.assertEqual(keeper.weigh(0, 2, 0), [])
        self.assertEqual(keeper.looked(), [])
        self.assertEqual(state_of(keeper), before.replace("[0, 2])", "[])"))
        self.holds(keeper, (4, ((0, 1, 6), (0, 3, 2), (1, 2, 7), (2, 3, 1))), [0, 2])

    def test_a_place_that_is_not_there(self):
        keeper = Keeper(RING, [0, 2])
        keeper.weigh(0, 1, 6)
        before = state_of(keeper)
        for a, b in ((0, 4), (-1, 0), (4, 5), (3, 4), (-2, -1), (0, 10 ** 20)):
            for weight in (0, 1):
                with self.assertRaises(NoPlace):
                    keeper.weigh(a, b, weight)
        self.assertEqual(state_of(keeper), before)
        self.assertEqual(keeper.undo(), [(0, 7, 6), (2, 7, 6)])
        self.holds(keeper, RING, [0, 2])
        self.assertIsNone(keeper.undo())

    def test_small_webs_by_finding_all_anew(self):
        dice = Dice(602)
        seen = {}
        for web, posts in small_webs(603, 60, 8):
            keeper = Keeper(web, posts)
            for _ in range(12):
                a, b = sorted(dice.some(range(web[0]), 2))
                weight = dice.below(6)
                looked = looked_by_words(web, posts, a, b, weight)
                old, web = web, weighed(web, a, b, weight)
                told = keeper.weigh(a, b, weight)
                self.assertEqual(told, otherwise((old, posts), (web, posts)))
                self.assertEqual(keeper.looked(), looked)
                self.holds(keeper, web, posts)
                seen[len(looked) == len(posts), bool(looked), bool(told)] = True
        self.assertEqual(len(seen), 6)

    def test_small_webs_by_all_sides(self):
        dice = Dice(604)
        for web, posts in small_webs(605, 30):
            keeper = Keeper(web, posts)
            for _ in range(5):
                a, b = sorted(dice.some(range(web[0]), 2))
                keeper.weigh(a, b, dice.below(5))
                for post, paper in zip(posts, keeper.singles_now()):
                    weight, sides = least_sides(keeper.web_now(), [post], rest_of(posts, post))
                    self.assertEqual(paper[0], weight)
                    self.assertEqual(set(paper[2]), set.intersection(*map(set, sides)))


class Posts(KeeperCase):
    def test_put(self):
        keeper = Keeper(RING, [0, 2])
        self.assertEqual(keeper.put_post(1), [(1, None, 12), (2, 6, 8)])
        self.assertEqual(keeper.looked(), [0, 1, 2])
        self.holds(keeper, RING, [0, 1, 2])
        self.assertEqual(keeper.put_post(3), otherwise((RING, [0, 1, 2]), (RING, [0, 1, 2, 3])))
        self.assertEqual(keeper.looked(), [0, 1, 2, 3])
        self.holds(keeper, RING, [0, 1, 2, 3])

    def test_take(self):
        keeper = Keeper(RING, [0, 1, 2])
        self.assertEqual(keeper.take_post(1), [(1, 12, None), (2, 8, 6)])
        self.assertEqual(keeper.looked(), [0, 2])
        self.holds(keeper, RING, [0, 2])

    def test_a_value_of_nought_is_told_too(self):
        keeper = Keeper((3, ()), [0, 1])
        self.assertEqual(keeper.put_post(2), [(2, None, 0)])
        self.assertEqual(keeper.take_post(0), [(0, 0, None)])
        self.holds(keeper, (3, ()), [1, 2])

    def test_no_post(self):
        keeper = Keeper(RING, [0, 2, 3])
        keeper.weigh(0, 1, 3)
        before = state_of(keeper)
        for place in (0, 2, 3):
            with self.assertRaises(NoPost):
                keeper.put_post(place)
        with self.assertRaises(NoPost):
            keeper.take_post(1)
        self.assertEqual(state_of(keeper), before)
        keeper.undo()
        self.holds(keeper, RING, [0, 2, 3])
        self.assertIsNone(keeper.undo())

    def test_the_last_two_posts(self):
        keeper = Keeper(RING, [0, 2, 3])
        keeper.take_post(3)
        before = state_of(keeper)
        for place in (0, 1, 2, 3):
            with self.assertRaises(NoPost):
                keeper.take_post(place)
        self.assertEqual(state_of(keeper), before)
        self.holds(keeper, RING, [0, 2])

    def test_no_place_goes_first(self):
        keeper = Keeper(RING, [0, 2])
        before = state_of(keeper)
        for place in (-1, 4, 5, 10 ** 20, -4):
            with self.assertRaises(NoPlace):
                keeper.put_post(place)
            with self.assertRaises(NoPlace):
                keeper.take_post(place)
        self.assertEqual(state_of(keeper), before)
        self.assertIsNone(keeper.undo())

    def test_refusals_stand_straight_under_their_class(self):
        for refusal in (NoPlace, NoPost):
            self.assertEqual(refusal.__bases__, (PartError,))


class Undo(KeeperCase):
    def test_nothing(self):
        keeper = Keeper(RING, [0, 2])
        self.assertIsNone(keeper.undo())
        self.assertIsNone(keeper.undo())
        self.holds(keeper, RING, [0, 2])

    def test_each_kind_of_deed(self):
        keeper = Keeper(RING, [0, 2])
        keeper.weigh(0, 1, 0)
        self.assertEqual(keeper.undo(), [(0, 1, 6), (2, 1, 6)])
        self.holds(keeper, RING, [0, 2])
        keeper.weigh(0, 2, 3)
        self.assertEqual(keeper.undo(), [(0, 9, 6), (2, 9, 6)])
        self.holds(keeper, RING, [0, 2])
        keeper.put_post(1)
        self.assertEqual(keeper.undo(), [(1, 12, None), (2, 8, 6)])
        self.holds(keeper, RING, [0, 2])
        other = Keeper(RING, [0, 1, 2])
        other.take_post(1)
        self.assertEqual(other.undo(), [(1, None, 12), (2, 6, 8)])
        self.holds(other, RING, [0, 1, 2])
        self.assertIsNone(other.undo())

    def test_a_deed_that_changed_nothing_counts(self):
        keeper = Keeper(RING, [0, 2])
        keeper.weigh(0, 1, 4)
        keeper.weigh(0, 1, 4)
        keeper.weigh(0, 2, 0)
        self.assertEqual(keeper.undo(), [])
        self.assertEqual(keeper.web_now()[1][0], (0, 1, 4))
        self.assertEqual(keeper.undo(), [])
        self.assertEqual(keeper.web_now()[1][0], (0, 1, 4))
        self.assertEqual(keeper.undo(), [(0, 5, 6), (2, 5, 6)])
        self.holds(keeper, RING, [0, 2])
        self.assertIsNone(keeper.undo())

    def test_a_refused_deed_does_not_count(self):
        keeper = Keeper(RING, [0, 2])
        keeper.put_post(1)
        for deed in (lambda: keeper.put_post(1), lambda: keeper.weigh(0, 9, 1), lambda: keeper.take_post(3)):
            with self.assertRaises(PartError):
                deed()
        self.assertEqual(keeper.undo(), [(1, 12, None), (2, 8, 6)])
        self.assertIsNone(keeper.undo())

    def test_deeds_behind_undo(self):
        keeper = Keeper(CHAIN, [0, 3])
        keeper.weigh(0, 1, 1)
        keeper.weigh(0, 1, 3)
        keeper.undo()
        keeper.weigh(2, 3, 1)
        self.holds(keeper, (4, ((0, 1, 1), (1, 2, 2), (2, 3, 1))), [0, 3])
        keeper.undo()
        self.holds(keeper, (4, ((0, 1, 1), (1, 2, 2), (2, 3, 7))), [0, 3])
        keeper.undo()
        self.holds(keeper, CHAIN, [0, 3])
        self.assertIsNone(keeper.undo())

    def test_looked_tells_posts(self):
        keeper = Keeper(RING, [0, 2])
        keeper.put_post(1)
        keeper.undo()
        self.assertTrue(set(keeper.looked()) <= {0, 2})
        keeper.undo()
        self.assertTrue(set(keeper.looked()) <= {0, 2})

    def test_any_deeds_by_finding_all_anew(self):
        dice = Dice(611)
        for web, posts in small_webs(612, 60, 7):
            keeper = Keeper(web, posts)
            past = []
            for _ in range(25):
                old = (web, posts)
                kind = dice.below(5)
                if kind == 0:
                    told = keeper.undo()
                    if not past:
                        self.assertIsNone(told)
                        continue
                    web, posts = past.pop()
                    self.assertTrue(set(keeper.looked()) <= set(posts))
                else:
                    told, web, posts, looked = self.some_deed(dice, keeper, web, posts, kind)
                    if told is None:
                        continue
                    past.append(old)
                    self.assertEqual(keeper.looked(), looked)
                self.assertEqual(told, otherwise(old, (web, posts)))
                self.holds(keeper, web, posts)

    def some_deed(self, dice, keeper, web, posts, kind):
        """A tuple of what is told, None where it's refused, and of the web, the posts and what is looked at then."""
        if kind in (1, 2):
            a, b = sorted(dice.some(range(web[0]), 2))
            weight = dice.below(6)
            looked = looked_by_words(web, posts, a, b, weight)
            return keeper.weigh(a, b, weight), weighed(web, a, b, weight), posts, looked
        place = dice.below(web[0])
        deed, refused, later = (
            (keeper.put_post, place in posts, sorted(posts + [place])) if kind == 3 else
            (keeper.take_post, place not in posts or len(posts) == 2, rest_of(posts, place))
        )
        if not refused:
            return deed(place), web, later, later
        with self.assertRaises(NoPost):
            deed(place)
        return None, web, posts, None


class Whole(KeeperCase):
    def test_great_in_little_time(self):
        begun = time.perf_counter()
        dice = Dice(621)
        for seed in range(3):
            web, posts = great_web(622 + seed), GREAT_POSTS
            keeper = Keeper(web, posts)
            for _ in range(40):
                a, b = sorted(dice.some(range(30), 2)) if dice.below(2) else dice.some(web[1], 1)[0][:2]
                weight = dice.below(10 ** 9) * dice.below(3) // 2
                looked = looked_by_words(web, posts, a, b, weight)
                old, web = web, weighed(web, a, b, weight)
                self.assertEqual(keeper.weigh(a, b, weight), otherwise((old, posts), (web, posts)))
                self.assertEqual(keeper.looked(), looked)
                self.holds(keeper, web, posts)
                told = keeper.parting_now() + (keeper.singles_now(),)
                self.assertIs(shows_by_singles(web, posts, told), True)
            for _ in range(40):
                self.assertIsNotNone(keeper.undo())
            self.holds(keeper, great_web(622 + seed), posts)
            self.assertIsNone(keeper.undo())
        self.assertLess(time.perf_counter() - begun, 60)

    def test_two_keepers_by_turns(self):
        one, other = Keeper(RING, [0, 2]), Keeper(RING, [0, 2])
        one.weigh(0, 1, 1)
        self.holds(other, RING, [0, 2])
        other.put_post(3)
        self.holds(one, (4, ((0, 1, 1), (0, 3, 2), (1, 2, 7), (2, 3, 1))), [0, 2])
        one.undo()
        self.holds(one, RING, [0, 2])
        self.holds(other, RING, [0, 2, 3])
        self.assertIsNone(one.undo())
        self.assertIsNotNone(other.undo())

    def test_what_was_handed_in_is_not_kept(self):
        posts = [0, 2]
        keeper = Keeper(RING, posts)
        posts.append(3)
        self.holds(keeper, RING, [0, 2])
        posts.clear()
        keeper.put_post(1)
        self.assertEqual(posts, [])
        self.holds(keeper, RING, [0, 1, 2])

    def test_what_is_told_is_the_askers_own(self):
        keeper = Keeper(RING, [0, 2])
        for deed in (
            lambda: keeper.weigh(0, 1, 3), lambda: keeper.put_post(1), lambda: keeper.weigh(1, 3, 2),
            lambda: keeper.take_post(0), lambda: keeper.undo(), lambda: keeper.weigh(1, 3, 2), lambda: keeper.undo(),
        ):
            told = [deed()]
            wished = state_of(keeper)
            for ask in (keeper.posts_now, keeper.singles_now, keeper.parting_now, keeper.looked):
                told += [ask(), ask()]
            lists = lists_in(told)
            self.assertEqual(len({id(row) for row in lists}), len(lists))
            for row in lists:
                row.append("spoilt")
                row.reverse()
            self.assertEqual(state_of(keeper), wished)
        web, posts = keeper.web_now(), keeper.posts_now()
        self.holds(keeper, web, posts)
        while keeper.undo() is not None:
            pass
        self.holds(keeper, RING, [0, 2])

    def test_what_was_told_may_be_handed_in_again(self):
        keeper = Keeper(RING, [0, 2])
        keeper.weigh(0, 2, 3)
        keeper.put_post(3)
        again = Keeper(keeper.web_now(), keeper.posts_now())
        self.holds(again, keeper.web_now(), keeper.posts_now())
        posts = keeper.posts_now()
        kept = deepcopy(posts)
        later = Keeper(keeper.web_now(), posts)
        later.take_post(3)
        self.assertEqual(posts, kept)
        self.assertEqual(keeper.posts_now(), kept)


if __name__ == "__main__":
    unittest.main()
