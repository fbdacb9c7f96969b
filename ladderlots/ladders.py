"""Ladders: posts side by side, and the rungs between them on which walkers cross."""

from ladderlots.errors import NoPost, NoRung, Unlike

MOST_POSTS = 100


def check_posts(posts):
    if not 1 <= posts <= MOST_POSTS:
        raise NoPost(f"a ladder has from 1 to {MOST_POSTS} posts, not {posts}")


def check_rungs(posts, rungs):
    for rung in rungs:
        if not 0 <= rung <= posts - 2:
            raise NoRung(f"rung {rung} joins no two of {posts} posts")


def cross(held, rung):
    left = held[rung]
    held[rung] = held[rung + 1]
    held[rung + 1] = left


class Ladder:
    def __init__(self, posts, rungs=None):
        check_posts(posts)
        # A tuple of its own, so that a list changed afterwards leaves the ladder as it is.
        own = () if rungs is None else tuple(rungs)
        check_rungs(posts, own)
        self.posts = posts
        self.rungs = own

    def way(self, walker):
        if not 0 <= walker < self.posts:
            raise NoPost(f"no post here has the number {walker}")
        walked = [walker]
        for rung in self.rungs:
            post = walked[-1]
            if rung == post:
                walked.append(post + 1)
            elif rung == post - 1:
                walked.append(post - 1)
        return walked

    def ends(self):
        # Carried down, the walkers' numbers tell who stands at each foot; asked is the other way round.
        walkers = self.carried(list(range(self.posts)))
        feet = [0] * self.posts
        for foot, walker in enumerate(walkers):
            feet[walker] = foot
        return feet

    def carried(self, things):
        if len(things) != self.posts:
            raise Unlike("there are not as many things as posts")
        held = list(things)
        for rung in self.rungs:
            cross(held, rung)
        return held

    def turned(self):
        return Ladder(self.posts, self.rungs[::-1])

    def above(self, other):
        if self.posts != other.posts:
            raise Unlike("the two ladders have not as many posts")
        return Ladder(self.posts, self.rungs + other.rungs)
