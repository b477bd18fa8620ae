"""A web whose single cuts are kept while its ties and posts change."""

from partedweb.errors import NoPlace, NoPost
from partedweb.flows import arcs_of, flow, given_at, send, value_of
from partedweb.singles import parting_by, single_ends, singles
from partedweb.webs import reweighed, tie_weights

FEWEST_POSTS = 2


class Keeper:
    """Keeps the single cuts of a web; a tie that weighs otherwise has only those found anew that it may change."""

    def __init__(self, web, posts):
        self.web = web
        self.posts = list(posts)
        self.papers = singles(web, posts)
        self.found = []
        # For each deed that is still done what was kept ahead of it.
        self.past = []

    def web_now(self):
        """The web."""
        return self.web

    def posts_now(self):
        """The posts."""
        return list(self.posts)

    def singles_now(self):
        """What singles tells of the web and the posts."""
        return [(value, list(amounts), list(side)) for value, amounts, side in self.papers]

    def parting_now(self):
        """A tuple (weight, cut): the parting that by_singles tells."""
        return parting_by(self.web, self.posts, self.papers)

    def looked(self):
        """The posts whose single cuts the last deed found anew."""
        return list(self.found)

    def weigh(self, a, b, weight):
        """Let a tie weigh so much, none being there any more where it's 0; the single values that are otherwise."""
        self.need_place(a)
        self.need_place(b)
        more = weight - tie_weights(self.web).get((a, b), 0)
        web = reweighed(self.web, (a, b), weight)
        papers = []
        found = []
        for ends, paper in zip(single_ends(self.posts), self.papers):
            if is_touched(paper[2], a, b, more):
                papers.append(flow(web, ends[0], ends[1]))
                found.extend(ends[0])
            else:
                papers.append(carried(self.web, web, ends, paper))
        return self.deed(web, self.posts, papers, found)

    def put_post(self, place):
        """Make a place a post; the single values that are otherwise."""
        self.need_place(place)
        if place in self.posts:
            raise NoPost("the place is a post already")
        return self.deed_of_posts(sorted(self.posts + [place]))

    def take_post(self, place):
        """Let a place be a post no more; the single values that are otherwise."""
        self.need_place(place)
        if place not in self.posts:
            raise NoPost("the place is no post")
        if len(self.posts) == FEWEST_POSTS:
            raise NoPost("two posts have to stay")
        return self.deed_of_posts([post for post in self.posts if post != place])

    def undo(self):
        """Take the last deed that is still done back; the single values that are otherwise, None without a deed."""
        if not self.past:
            return None
        web, posts, papers = self.past.pop()
        return self.turn_to(web, posts, papers, [])

    def need_place(self, place):
        """Refuse a place that isn't the web's."""
        if not 0 <= place < self.web[0]:
            raise NoPlace("the place isn't the web's")

    def deed_of_posts(self, posts):
        """Have these posts from now on: all single cuts are found anew."""
        return self.deed(self.web, posts, singles(self.web, posts), posts)

    def deed(self, web, posts, papers, found):
        """Keep these from now on, so that it can be taken back."""
        self.past.append((self.web, self.posts, self.papers))
        return self.turn_to(web, posts, papers, found)

    def turn_to(self, web, posts, papers, found):
        """Keep these from now on, and tell the tuples (post, old, new) of the single values that are otherwise."""
        old = self.single_values()
        self.web = web
        self.posts = posts
        self.papers = papers
        self.found = found
        new = self.single_values()
        every = sorted(set(list(old) + list(new)))
        return [(post, old.get(post), new.get(post)) for post in every if old.get(post) != new.get(post)]

    def single_values(self):
        """The single values by their posts."""
        return {post: paper[0] for post, paper in zip(self.posts, self.papers)}


def is_touched(side, a, b, more):
    """Whether a least side may be another one when a tie weighs so much more, less where that is below 0."""
    # A side that a heavier tie doesn't cross weighs what it did, and no side weighs less than it did.
    # A side that a lighter tie crosses weighs so much less, and no side loses more.
    return more != 0 and ((a in side) != (b in side)) == (more > 0)


def carried(old, web, ends, paper):
    """A flow whose side stays the least one, in a web in which one tie weighs otherwise than in the old one."""
    sources, sinks = ends
    by_pair = {tie[:2]: amount for tie, amount in zip(old[1], paper[1])}
    amounts = [max(-weight, min(weight, by_pair.get((a, b), 0))) for a, b, weight in web[1]]
    mend(web, amounts, sources, sinks)
    return (value_of(web, amounts, sources), amounts, paper[2])


def mend(web, amounts, sources, sinks):
    """Send back to the sources what comes to a place and goes no further, and from the sinks what no longer comes."""
    arcs = arcs_of(web)
    for place, more in enumerate(given_at(web, amounts)):
        if place not in sources and place not in sinks:
            send(web, arcs, amounts, [place], sources, -more)
            send(web, arcs, amounts, sinks, [place], more)
