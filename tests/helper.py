"""What several tests need: plain second tellings of the document, and ladders to ask."""

from itertools import product

from ladderlots.ladders import Ladder

HUGE = 10 ** 100 - 1  # the largest whole number of one hundred figures


class Thing:
    """A thing that can be carried, but neither compared nor hashed."""

    __hash__ = None

    def __eq__(self, other):
        raise AssertionError("a carried thing was compared")

    def __bool__(self):
        raise AssertionError("a carried thing was asked for its truth")


def refused(test, error, call, *given):
    """Asserts that the call is refused with just this class, not with one above or below it."""
    with test.assertRaises(error) as caught:
        call(*given)
    test.assertIs(type(caught.exception), error)


def only_whole_numbers(test, told):
    for number in told:
        test.assertIs(type(number), int)


def other_end(rung, post):
    """The post to which a rung brings somebody from this post; None if it does not leave it."""
    joined = (rung, rung + 1)
    if post not in joined:
        return None
    return joined[1 - joined.index(post)]


def walked(rungs, walker):
    way = [walker]
    for rung in rungs:
        to = other_end(rung, way[-1])
        if to is not None:
            way.append(to)
    return way


def spread(count, below, seed):
    """As many numbers from 0 to below less 1, well mixed, the same ones in every run."""
    state = seed
    numbers = []
    for _ in range(count):
        state = (state * 6364136223846793005 + 1442695040888963407) % 2 ** 64
        numbers.append((state >> 33) % below)
    return numbers


def small_ladders():
    """(posts, rungs) of every ladder of up to 4 posts and up to 4 rungs."""
    pairs = []
    for posts in range(1, 5):
        for count in range(5):
            pairs += [(posts, rungs) for rungs in product(range(posts - 1), repeat=count)]
    return pairs


def large_ladders():
    """(posts, rungs) of some ladders up to the bounds of the document."""
    return [
        (5, tuple(spread(30, 4, 1))),
        (17, tuple(spread(400, 16, 2))),
        (99, tuple(spread(1000, 98, 3))),
        (100, ()),
        (100, (98,)),
        (100, tuple(range(99))),
        (100, tuple(range(98, -1, -1))),
        (100, tuple(spread(5000, 99, 4))),
        (2, (0,) * 5000),
    ]


def all_ladders():
    return [(posts, rungs, Ladder(posts, rungs)) for posts, rungs in small_ladders() + large_ladders()]


def feet(posts, rungs):
    """The ends, walked by each walker alone."""
    return [walked(rungs, walker)[-1] for walker in range(posts)]


def ends_by_turns(posts, rungs):
    """The ends once more, quicker: where everybody stands, rung by rung."""
    standing_there = list(range(posts))
    for rung in rungs:
        standing_there[rung:rung + 2] = reversed(standing_there[rung:rung + 2])
    return [standing_there.index(walker) for walker in range(posts)]


def crossing_pairs(outcome):
    """[10]: the pairs that must cross, each pair asked by itself."""
    everybody = range(len(outcome))
    return sorted((a, b) for b in everybody for a in everybody if a < b and outcome[a] > outcome[b])


def cut(rungs):
    """[11]: the drops, as lists of rungs."""
    drops = []
    for rung in rungs:
        if drops and drops[-1][-1] - 1 == rung:
            drops[-1].append(rung)
        else:
            drops.append([rung])
    return drops


def stands_as_told(rungs):
    """[11]"""
    firsts = [drop[0] for drop in cut(rungs)]
    return all(one < other for one, other in zip(firsts, firsts[1:]))


def drawn_ladders(most):
    """Many ladders of several posts with up to so many rungs, the same ones in every run."""
    drawn = []
    for seed in range(6):
        for posts in (1, 2, 3, 4, 5, 6, 8, 13, 40, 100):
            for count in (0, 1, 2, 3, 7, 20, 60, 150):
                if count <= most and (posts > 1 or count == 0):
                    drawn.append(Ladder(posts, spread(count, posts - 1, 1000 * seed + 10 * posts + count)))
    return drawn


def mixed(length, seed):
    """An outcome of so many numbers, well mixed."""
    keys = spread(length, 10 ** 6, seed)
    return sorted(range(length), key=lambda at: (keys[at], at))


def no_outcomes():
    """Lists of whole numbers that are no outcome."""
    wrong = [
        [], [-1], [1], [2], [100], [HUGE], [-HUGE], [0, 0], [1, 1], [1, 2], [0, 2], [0, -1], [-1, -2], [2, 0],
        [0, 1, 1], [0, 0, 2], [1, 2, 3], [3, 1, 0], [0, 3, 0, 3], [0, 0, 3, 3], [1, 1, 1], [0, HUGE, 1],
        [-3, -2, -1], [0, 1, -1], [2, 1, 0, -HUGE],
    ]
    for length in (101, 102, 250):
        wrong += [list(range(length)), list(range(length))[::-1], [0] * length]
    for at in (0, 1, 50, 98, 99):
        for number in (-1, 100, 101, HUGE, -HUGE, (at + 1) % 100):
            wrong.append(list(range(at)) + [number] + list(range(at + 1, 100)))
    wrong.append(list(range(40)) + list(range(41, 100)))
    return wrong


def spoil(told):
    """Changes a list that was told as thoroughly as can be."""
    told.reverse()
    told.append("spoilt")
    told[0] = -5
