"""The least shares, and the pulls that show them least: found together, by raising the floor that the pulls put."""

from partedweb.kinds import fraction, over_one
from partedweb.partings import places_beside
from partedweb.shares import even_shares


def least_shares(web, posts):
    """A tuple (cost, shares, pulls): shares that none cost less than, and pulls whose floor is their cost."""
    board = first_board(web, posts)
    while board.climb():
        pass
    return (fraction(board.top_of(-1), 2 * board.below), shares_on(board, web, posts), pulls_on(board, web, posts))


def shares_on(board, web, posts):
    """The shares: how fast the floor would sink if a post's pull gave more at a place than it must."""
    shares = even_shares(web, posts)
    number = len(posts) * len(web[1])
    for place in places_beside(web, posts):
        for at in range(len(posts)):
            shares[place][at] = fraction(-board.rate_of(number), board.below)
            number += 1
    return shares


def pulls_on(board, web, posts):
    """The pulls, post by post and tie by tie."""
    many = len(web[1])
    tops = board.all_tops()
    return [[fraction(tops[at * many + tie], 2 * board.below) for tie in range(many)] for at in range(len(posts))]


def first_board(web, posts):
    """The board of a web, on which no pull gives anything above the floors.

    Its amounts are the pulls, post by post and tie by tie, counted in halves, so that all bounds are whole; then, for
    each place that is no post and each post, what that post's pull gives there above the place's floor, from 0; then
    these floors, without bounds. What is raised is twice the sum that floor_by tells.
    """
    ties = web[1]
    places = places_beside(web, posts)
    weights = [weight for post in posts for a, b, weight in ties]
    above = [len(weights) + at for at in range(len(places) * len(posts))]
    lows = [-weight for weight in weights] + [0 for number in above] + [None for place in places]
    highs = weights + [None for number in above] + [None for place in places]
    leaders = list(range(len(weights))) + above[::len(posts)]
    followers = [number for number in range(len(weights), len(lows)) if number not in leaders]
    rows = []
    floors = []
    for place in places:
        # All pulls begin alike, so the first post's may stand for the least that is given at a place.
        floor = gift(ties, posts, 0, place) + [-1 if place == other else 0 for other in places]
        floors.append(floor)
        for at in range(1, len(posts)):
            rows.append(added(gift(ties, posts, at, place) + [0 for other in places], floor, -1))
    raised = [0 for number in leaders]
    own = [gift(ties, posts, at, post) + [0 for place in places] for at, post in enumerate(posts)]
    for row in own + floors:
        raised = added(raised, row, 1)
    return Board(lows, highs, leaders, followers, rows + floors + [raised])


def gift(ties, posts, at, place):
    """By how much each of all pulls counts in what the pull of post number at gives at a place."""
    signs = [1 if place == a else -1 if place == b else 0 for a, b, weight in ties]
    return [sign if other == at else 0 for other in range(len(posts)) for sign in signs]


def added(row, other, times):
    """A row with another one so many times on top."""
    return [here + times * there for here, there in zip(row, other)]


class Board:
    """Numbered amounts within bounds: leaders, which stand at a bound, and followers, which are sums of leaders.

    A row for each follower, and the last for what is to be raised, tells how often each leader counts, over one below.
    """

    def __init__(self, lows, highs, leaders, followers, rows):
        self.lows = lows
        self.highs = highs
        self.leaders = leaders
        self.stands = [lows[number] for number in leaders]
        self.followers = followers
        self.rows = rows
        self.below = 1

    def top_of(self, at):
        """What a row comes to, over the below."""
        return sum([times * stand for times, stand in zip(self.rows[at], self.stands)])

    def all_tops(self):
        """What each amount comes to, by its number, over the below."""
        tops = {number: stand * self.below for number, stand in zip(self.leaders, self.stands)}
        for at, number in enumerate(self.followers):
            tops[number] = self.top_of(at)
        return tops

    def rate_of(self, number):
        """How fast what is to be raised grows with an amount, over the below; 0 with a follower."""
        return self.rows[-1][self.leaders.index(number)] if number in self.leaders else 0

    def climb(self):
        """Move a leader by which the last row grows as far as the bounds let it; whether there was one."""
        found = self.raiser()
        if found is None:
            return False
        self.move(found[0], found[1])
        return True

    def raiser(self):
        """The column of a leader by which the last row grows, with 1 where it is to go up, -1 where down, else None."""
        # The first by number, here and where a follower stops it: so no round of steps that raise nothing comes back.
        for number, column in sorted([(number, column) for column, number in enumerate(self.leaders)]):
            turn = 1 if self.stands[column] == self.lows[number] else -1
            if turn * self.rows[-1][column] > 0:
                return (column, turn)
        return None

    def move(self, column, turn):
        """Let a leader go up (turn 1) or down (-1) to its other bound, or until a follower comes to one."""
        leader = self.leaders[column]
        steps = []
        stops = []
        if self.highs[leader] is not None:
            steps.append((self.highs[leader] - self.lows[leader], 1))
            stops.append((leader, None, self.highs[leader] if turn == 1 else self.lows[leader]))
        for at, number in enumerate(self.followers):
            rate = turn * self.rows[at][column]
            bound = self.highs[number] if rate > 0 else self.lows[number]
            if rate != 0 and bound is not None:
                steps.append((abs(bound * self.below - self.top_of(at)), abs(rate)))
                stops.append((number, at, bound))
        below, tops = over_one([steps])
        step, (number, at, bound) = min(zip(tops[0], stops))
        if at is not None:
            self.exchange(at, column)
        self.stands[column] = bound

    def exchange(self, at, column):
        """Make a follower a leader, and the other way."""
        row = self.rows[at]
        pivot = row[column]
        sign = 1 if pivot > 0 else -1
        rows = [self.without_leader(other, row, column, sign) for other in self.rows]
        rows[at] = [-sign * times for times in row]
        rows[at][column] = sign * self.below
        self.rows = rows
        self.below = abs(pivot)
        self.leaders[column], self.followers[at] = self.followers[at], self.leaders[column]

    def without_leader(self, other, row, column, sign):
        """Another row once the follower of a row leads in this column."""
        changed = [
            sign * (here * row[column] - other[column] * there) // self.below for here, there in zip(other, row)
        ]
        changed[column] = sign * other[column]
        return changed
