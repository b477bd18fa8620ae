"""[9], with [2] and [3] as far as they speak of it: webs made less."""

import time
import unittest

from partedweb.shrinking import shrunk
from partedweb.webs import is_web, merged
from tests.helpers import asked_fairly, great_web, least_sides, least_weight, small_webs

CHAIN = (3, ((0, 1, 1), (1, 2, 1)))


def shrunk_by_words(web, posts):
    """The names, places being drawn into posts group by group, all sides gone through."""
    groups = [[place] for place in range(web[0])]
    for post in posts:
        names = tuple([place in group for group in groups].index(True) for place in range(web[0]))
        others = [names[other] for other in posts if other != post]
        _least, sides = least_sides(merged(web, names), [names[post]], others)
        wide = set.union(*[set(side) for side in sides])
        drawn = sorted(place for at in wide for place in groups[at])
        groups = [drawn] + [group for at, group in enumerate(groups) if at not in wide]
    groups.sort()
    return tuple([place in group for group in groups].index(True) for place in range(web[0]))


class Shrunk(unittest.TestCase):
    def test_ordinary(self):
        ring = (4, ((0, 1, 5), (0, 3, 2), (1, 2, 7), (2, 3, 1)))
        self.assertEqual(shrunk(ring, [0, 2]), ((2, ((0, 1, 6),)), (0, 1, 1, 0)))
        self.assertEqual(shrunk((3, ((0, 1, 1), (0, 2, 3), (1, 2, 4))), [0, 1, 2])[1], (0, 1, 2))

    def test_post_by_post_in_the_web_as_it_is_by_then(self):
        self.assertEqual(shrunk(CHAIN, [0, 2]), ((2, ((0, 1, 1),)), (0, 0, 1)))
        star = (4, ((0, 3, 2), (1, 3, 2), (2, 3, 4)))
        self.assertEqual(shrunk(star, [0, 1, 2]), ((3, ((0, 2, 2), (1, 2, 2))), (0, 1, 2, 2)))

    def test_numbers_by_rising_least_places(self):
        web = (6, ((0, 2, 1), (0, 5, 9), (1, 2, 1), (1, 4, 9), (2, 3, 1)))
        less, names = shrunk(web, [3, 4, 5])
        self.assertEqual(names, (0, 1, 2, 3, 1, 0))
        self.assertEqual(less, (4, ((0, 2, 1), (1, 2, 1), (2, 3, 1))))
        self.assertEqual(shrunk((4, ((0, 3, 5), (1, 3, 1), (2, 3, 1))), [1, 3])[1], (0, 1, 0, 0))

    def test_several_pieces(self):
        self.assertEqual(shrunk((4, ()), [1, 3]), ((2, ()), (0, 0, 0, 1)))
        self.assertEqual(shrunk((4, ((0, 2, 1),)), [1, 3]), ((2, ()), (0, 0, 0, 1)))
        self.assertEqual(shrunk((4, ((0, 3, 1),)), [1, 3]), ((2, ()), (0, 1, 1, 0)))

    def test_each_place_is_a_post(self):
        for web in ((2, ()), (2, ((0, 1, 3),)), (3, ((0, 1, 1), (1, 2, 4)))):
            posts = list(range(web[0]))
            self.assertEqual(shrunk(web, posts), (web, tuple(posts)))

    def test_by_words(self):
        for web, posts in small_webs(41, 200):
            less, names = shrunk(web, posts)
            self.assertIs(names.__class__, tuple)
            self.assertEqual({name.__class__ for name in names}, {int})
            self.assertEqual(names, shrunk_by_words(web, posts))
            self.assertEqual(less, merged(web, names))
            self.assertEqual(shrunk(web, tuple(posts)), (less, names))

    def test_least_partings_weigh_the_same(self):
        for web, posts in small_webs(42, 150):
            less, names = shrunk(web, posts)
            self.assertIs(is_web(less), True)
            self.assertEqual(len({names[post] for post in posts}), len(posts))
            self.assertEqual(least_weight(less, sorted(names[post] for post in posts)), least_weight(web, posts))

    def test_great_webs_in_little_time(self):
        begun = time.perf_counter()
        for seed in range(43, 53):
            web = great_web(seed)
            less, names = shrunk(web, [0, 5, 10, 15, 20, 29])
            self.assertEqual(less, merged(web, names))
            self.assertIs(is_web(less), True)
        self.assertLess(time.perf_counter() - begun, 30)

    def test_asked_fairly(self):
        asked_fairly(self, shrunk, CHAIN, [0, 2])


if __name__ == "__main__":
    unittest.main()
