"""What the tests share: made webs, slow ways by the document's words alone, and odd things."""

from copy import deepcopy
from fractions import Fraction
from itertools import combinations, product
from math import gcd


class Dice:
    """Numbers that look thrown, and are the same on each run and each Python."""

    def __init__(self, seed):
        self.state = seed

    def below(self, many):
        self.state = (self.state * 6364136223846793005 + 1442695040888963407) % 2 ** 64
        return (self.state >> 33) % many

    def some(self, things, many):
        """So many unlike ones of the things, in any order."""
        rest = list(things)
        return [rest.pop(self.below(len(rest))) for _ in range(many)]

    def web(self, many, ties, heaviest):
        pairs = [(a, b) for b in range(many) for a in range(b)]
        chosen = sorted(self.some(pairs, min(ties, len(pairs))))
        return (many, tuple((a, b, 1 + self.below(heaviest)) for a, b in chosen))

    def tree(self, many, heaviest):
        """A web that is a tree, its places numbered anyhow."""
        names = self.some(range(many), many)
        pairs = [sorted((names[place], names[self.below(place)])) for place in range(1, many)]
        return (many, tuple((a, b, 1 + self.below(heaviest)) for a, b in sorted(pairs)))

    def posts(self, many, posts):
        return sorted(self.some(range(many), posts))


def small_webs(seed, rounds, most=6):
    """Webs with posts, small enough that all there is of them can be gone through."""
    dice = Dice(seed)
    for _ in range(rounds):
        many = 2 + dice.below(most - 1)
        web = dice.web(many, dice.below(many * 2 + 1), 1 + dice.below(5))
        yield web, dice.posts(many, 2 + dice.below(min(many, 4) - 1))


def some_pairs(dice, many, pairs):
    """So many unlike pairs of places, in any order, fewer where there are no more."""
    every = [(a, b) for b in range(many) for a in range(b)]
    return dice.some(every, min(pairs, len(every)))


def great_web(seed):
    """A web of as many places and ties as the bounds allow, of great weights."""
    return Dice(seed).web(30, 90, 10 ** 9)


def together(web, gone):
    """Which places each place hangs together with, without the pairs that are gone."""
    found = [{place} for place in range(web[0])]
    for _ in range(web[0]):
        for a, b, _weight in web[1]:
            if (a, b) not in gone:
                both = found[a] | found[b]
                found[a], found[b] = both, set(both)
    return found


def parts(web, posts, gone):
    found = together(web, gone)
    return not any(other in found[post] for post in posts for other in posts if other != post)


def parts_pairs_by_words(web, pairs, gone):
    found = together(web, gone)
    return not any(b in found[a] for a, b in pairs)


def all_cuts(web):
    pairs = [tie[:2] for tie in web[1]]
    return [list(cut) for many in range(len(pairs) + 1) for cut in combinations(pairs, many)]


def all_owners(web, posts):
    choices = [[place] if place in posts else list(posts) for place in range(web[0])]
    return product(*choices)


def rim_weight(web, side):
    return sum(weight for a, b, weight in web[1] if (a in side) != (b in side))


def rows_by_weight(web, posts):
    """All rows of owners, gone through, by what their cuts weigh."""
    rows = {}
    for owners in all_owners(web, posts):
        rows.setdefault(sum(weight for a, b, weight in web[1] if owners[a] != owners[b]), []).append(owners)
    return rows


def least_weight(web, posts):
    """What the lightest parting weighs, all rows of owners gone through."""
    return min(rows_by_weight(web, posts))


def least_sides(web, sources, sinks):
    """The least weight of a side, and all sides that weigh so, all sides gone through."""
    free = [place for place in range(web[0]) if place not in sources and place not in sinks]
    sides = []
    for chosen in product([False, True], repeat=len(free)):
        sides.append(sorted(list(sources) + [place for place, within in zip(free, chosen) if within]))
    least = min(rim_weight(web, side) for side in sides)
    return least, [side for side in sides if rim_weight(web, side) == least]


def is_flow_by_words(web, sources, sinks, told):
    """Whether told is what shows_flow is to take."""
    if told.__class__ is not tuple or len(told) != 3 or told[0].__class__ is not int:
        return False
    value, amounts, side = told
    for row in (amounts, side):
        if row.__class__ not in (list, tuple) or [part for part in row if part.__class__ is not int]:
            return False
    if list(side) != sorted(set(side)) or not set(sources) <= set(side) <= set(range(web[0])) - set(sinks):
        return False
    if len(amounts) != len(web[1]):
        return False
    more = {place: 0 for place in range(web[0])}
    for (a, b, weight), amount in zip(web[1], amounts):
        if not -weight <= amount <= weight:
            return False
        more[a] += amount
        more[b] -= amount
    if [place for place in more if more[place] and place not in sources and place not in sinks]:
        return False
    return value == sum(more[place] for place in sources) == rim_weight(web, side)


def is_cut_by_words(web, thing):
    """Whether a thing is a rising list of unlike pairs of ties, kinds counting."""
    if thing.__class__ not in (list, tuple):
        return False
    for pair in thing:
        if pair.__class__ is not tuple or [part.__class__ for part in pair] != [int, int]:
            return False
    return list(thing) == sorted(set(thing) & {tie[:2] for tie in web[1]})


def is_fraction_by_words(thing):
    if thing.__class__ is not tuple or [part.__class__ for part in thing] != [int, int]:
        return False
    return thing[1] >= 1 and gcd(*thing) == 1


def told_fraction(number):
    """A number as a fraction is told."""
    return (Fraction(number).numerator, Fraction(number).denominator)


def some_shares(dice, web, posts, most):
    """Shares of fractions whose numbers are at most so great."""
    shares = []
    for place in range(web[0]):
        below = 1 + dice.below(most)
        marks = sorted(dice.below(below + 1) for _ in posts[1:])
        tops = [high - low for low, high in zip([0] + marks, marks + [below])]
        if place in posts:
            below, tops = 1, [int(post == place) for post in posts]
        shares.append([told_fraction(Fraction(top, below)) for top in tops])
    return shares


def cost_by_words(web, shares):
    cost = Fraction(0)
    for a, b, weight in web[1]:
        for here, there in zip(shares[a], shares[b]):
            cost += weight * abs(Fraction(*here) - Fraction(*there)) / 2
    return cost


def is_shares_by_words(web, posts, thing):
    """Whether a thing is what is_shares is to take."""
    if thing.__class__ not in (list, tuple) or len(thing) != web[0]:
        return False
    for place, row in enumerate(thing):
        if row.__class__ not in (list, tuple) or len(row) != len(posts):
            return False
        if not all(is_fraction_by_words(share) and share[0] >= 0 for share in row):
            return False
        if sum(Fraction(*share) for share in row) != 1:
            return False
        if place in posts and row[posts.index(place)] != (1, 1):
            return False
    return True


def nested(depth, make):
    thing = 0
    for _ in range(depth):
        thing = make(thing)
    return thing


ODD_THINGS = [
    0, 1, -1, 10 ** 30, True, False, None, "", "web", "0 1", (), [], (None,), [None], (1,), [1], (1, ()), [1, ()],
    ((), ()), [[], []], (0, [], []), [0, [], []], (0, [], [], []), (True, (), ()), ("0", "0", "0"), (None, None, None),
    (0, [[]], [()]), (0, [(0, 1)], []), (0, [[0, 1]], []), ((0,), [0], [0]), (0, "", ""), (0, None, None), (0, 0, 0),
    nested(40, lambda thing: [thing]), nested(40, lambda thing: (thing,)), nested(39, lambda thing: (0, [thing], [])),
    nested(20, lambda thing: ([thing],)),
]


def odd_things():
    return deepcopy(ODD_THINGS)


def bent(thing):
    """All things that are unlike a told one in one spot, kinds counting; told lists stay as they were."""
    if isinstance(thing, (list, tuple)):
        yield from bent_row(thing)
    elif isinstance(thing, int) and not isinstance(thing, bool):
        yield from [thing + 1, thing - 1, -thing - 2, 10 ** 20]
    yield from [None, True, False, "x", "", (), [], [0], (0,), (0, 1), [[0]]]


def bent_row(row):
    make, other = (list, tuple) if isinstance(row, list) else (tuple, list)
    yield other(row)
    yield make(reversed(row))
    if make is tuple and [part.__class__ for part in row] == [int, int]:
        yield from [(2 * row[0], 2 * row[1]), (-row[0], -row[1]), (row[0], -row[1]), (row[0], 0), (0, 2), (2, 2)]
    for at in range(len(row)):
        yield make(row[:at] + row[at + 1:])
        yield make(row[:at] + row[at:at + 1] + row[at:])
        for part in bent(row[at]):
            yield row[:at] + make([part]) + row[at + 1:]
    for more in [0, -1, 99, True, None, "x", (0, 1), [], (0, [], [])]:
        yield row + make([more])


def exchanged(thing):
    """The same with each list as a tuple and each tuple as a list."""
    if isinstance(thing, list):
        return tuple(exchanged(part) for part in thing)
    if isinstance(thing, tuple):
        return [exchanged(part) for part in thing]
    return thing


def lists_in(thing):
    """All lists within a told thing, each as often as it is met."""
    found = [thing] if isinstance(thing, list) else []
    if isinstance(thing, (list, tuple)):
        for part in thing:
            found.extend(lists_in(part))
    return found


def asked_fairly(case, ask, *handed):
    """What is told, when nothing handed in is changed, and nothing done to what is told changes a later answer."""
    kept = deepcopy(handed)
    first = ask(*handed)
    case.assertEqual(repr(handed), repr(kept))
    lists = lists_in(first)
    case.assertEqual(len({id(row) for row in lists}), len(lists))
    case.assertFalse({id(row) for row in lists} & {id(row) for row in lists_in(handed)})
    wished = repr(first)
    told = deepcopy(first)
    for row in lists:
        row.append("spoilt")
        row.reverse()
    case.assertEqual(repr(handed), repr(kept))
    again = ask(*handed)
    case.assertEqual(repr(again), wished)
    for row in lists_in(handed):
        row.append("spoilt")
    case.assertEqual(repr(again), wished)
    for row in lists_in(handed):
        row.pop()
    return told
