"""What several tests need: plain second tellings of the document, and ladders to ask."""

from itertools import product

from ladderlots.ladders import Ladder

HUGE = 10 ** 100 - 1  # the largest whole number of one hundred figures


class Thing:
    """A thing that can be carried, but neither compared nor hashed."""

    __hash__ = None

    def __eq__(self, other):
        raise AssertionError("a carried thing was compared")

    def __bool__(self):
        raise AssertionError("a carried thing was asked for its truth")


def refused(test, error, call, *given):
    """Asserts that the call is refused with just this class, not with one above or below it."""
    with test.assertRaises(error) as caught:
        call(*given)
    test.assertIs(type(caught.exception), error)


def only_whole_numbers(test, told):
    for number in told:
        test.assertIs(type(number), int)


def other_end(rung, post):
    """The post to which a rung brings somebody from this post; None if it does not leave it."""
    joined = (rung, rung + 1)
    if post not in joined:
        return None
    return joined[1 - joined.index(post)]


def walked(rungs, walker):
    way = [walker]
    for rung in rungs:
        to = other_end(rung, way[-1])
        if to is not None:
            way.append(to)
    return way


def spread(count, below, seed):
    """As many numbers from 0 to below less 1, well mixed, the same ones in every run."""
    state = seed
    numbers = []
    for _ in range(count):
        state = (state * 6364136223846793005 + 1442695040888963407) % 2 ** 64
        numbers.append((state >> 33) % below)
    return numbers


def small_ladders():
    """(posts, rungs) of every ladder of up to 4 posts and up to 4 rungs."""
    pairs = []
    for posts in range(1, 5):
        for count in range(5):
            pairs += [(posts, rungs) for rungs in product(range(posts - 1), repeat=count)]
    return pairs


def large_ladders():
    """(posts, rungs) of some ladders up to the bounds of the document."""
    return [
        (5, tuple(spread(30, 4, 1))),
        (17, tuple(spread(400, 16, 2))),
        (99, tuple(spread(1000, 98, 3))),
        (100, ()),
        (100, (98,)),
        (100, tuple(range(99))),
        (100, tuple(range(98, -1, -1))),
        (100, tuple(spread(5000, 99, 4))),
        (2, (0,) * 5000),
    ]


def all_ladders():
    return [(posts, rungs, Ladder(posts, rungs)) for posts, rungs in small_ladders() + large_ladders()]
