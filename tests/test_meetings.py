"""Promises [9] and [10], and of [7] the refusal: meetings, and the pairs that must cross."""

import unittest
from itertools import combinations, permutations

from ladderlots.errors import NoOutcome
from ladderlots.ladders import Ladder
from ladderlots.meetings import met, must
from tests.helper import (
    all_ladders, crossing_pairs, drawn_ladders, feet, mixed, no_outcomes, only_whole_numbers, refused, spoil, walked,
)


def meetings_of_walks(posts, rungs):
    """[9]: the rungs above each one are walked anew by everybody."""
    told = []
    for number, rung in enumerate(rungs):
        there = {walked(rungs[:number], walker)[-1]: walker for walker in range(posts)}
        told.append((there[rung], there[rung + 1]))
    return told


def by_pair(meetings):
    """For each pair, lesser one first, who was farther left at each of their meetings."""
    pairs = {}
    for left, right in meetings:
        pairs.setdefault((min(left, right), max(left, right)), []).append(left)
    return pairs


class Met(unittest.TestCase):
    """[9]"""

    def check_kinds(self, told, count):
        self.assertIs(list, type(told))
        self.assertEqual(count, len(told))
        for pair in told:
            self.assertIs(tuple, type(pair))
            self.assertEqual(2, len(pair))
            only_whole_numbers(self, pair)

    def test_told_by_hand(self):
        self.assertEqual([(0, 1), (0, 2)], met(Ladder(3, [0, 1])))
        self.assertEqual([(1, 2), (0, 2)], met(Ladder(3, [1, 0])))
        self.assertEqual([(0, 1), (0, 2), (1, 2)], met(Ladder(3, [0, 1, 0])))
        self.assertEqual([(0, 1), (2, 3), (0, 3), (1, 3), (0, 2), (2, 0)], met(Ladder(4, [0, 2, 1, 0, 2, 2])))

    def test_no_rungs_and_one(self):
        for posts in (1, 2, 100):
            self.assertEqual([], met(Ladder(posts)))
        self.assertEqual([(0, 1)], met(Ladder(2, [0])))
        self.assertEqual([(0, 1)], met(Ladder(100, [0])))
        self.assertEqual([(98, 99)], met(Ladder(100, [98])))

    def test_a_pair_that_meets_never_once_twice_and_three_times(self):
        self.assertEqual([(1, 2)], met(Ladder(3, [1])))
        self.assertEqual([(0, 1)], met(Ladder(3, [0])))
        self.assertEqual([(0, 1), (1, 0)], met(Ladder(3, [0, 0])))
        self.assertEqual([(0, 1), (1, 0), (0, 1)], met(Ladder(3, [0, 0, 0])))
        # The first two meet three times, each time on other posts than the time ahead.
        self.assertEqual([(0, 1), (0, 2), (1, 2), (1, 0), (2, 0), (2, 1), (0, 1)],
                         met(Ladder(3, [0, 1, 0, 1, 0, 1, 0])))

    def test_walked_by_everybody(self):
        for ladder in [ladder for posts, rungs, ladder in all_ladders() if len(rungs) < 60] + drawn_ladders(20):
            told = met(ladder)
            self.check_kinds(told, len(ladder.rungs))
            self.assertEqual(meetings_of_walks(ladder.posts, ladder.rungs), told)

    def test_the_first_one_comes_on_the_left_post(self):
        for posts, rungs, ladder in all_ladders():
            told = met(ladder)
            self.check_kinds(told, len(rungs))
            ways = [iter(walked(rungs, walker)) for walker in range(posts)]
            now = [next(way) for way in ways]
            for rung, (left, right) in zip(rungs, told, strict=True):
                self.assertEqual((rung, rung + 1), (now[left], now[right]))
                now[left], now[right] = next(ways[left]), next(ways[right])

    def test_five_thousand_rungs(self):
        self.assertEqual([(0, 1), (1, 0)] * 2500, met(Ladder(2, [0] * 5000)))
        self.assertEqual([(98, 99), (99, 98)] * 2500, met(Ladder(100, [98] * 5000)))

    def test_100_posts(self):
        self.assertEqual([(0, other) for other in range(1, 100)], met(Ladder(100, list(range(99)))))
        self.assertEqual([(other, 99) for other in range(98, -1, -1)], met(Ladder(100, list(range(98, -1, -1)))))

    def test_the_ladder_stays_and_what_is_told_is_the_askers_own(self):
        for rungs in ([], [0, 1, 0], [2, 2]):
            ladder = Ladder(4, rungs)
            first = met(ladder)
            before = list(first)
            second = met(ladder)
            spoil(first)
            self.assertEqual(before, second)
            met(Ladder(4, [1, 0, 2, 1])), must([3, 2, 1, 0])
            self.assertEqual(before, second)
            self.assertEqual(before, met(ladder))
            self.assertEqual((4, tuple(rungs)), (ladder.posts, ladder.rungs))
            rungs.append(1)
            self.assertEqual(before, met(ladder))

    def test_argument_by_name(self):
        self.assertEqual([(0, 1)], met(ladder=Ladder(2, [0])))


class Must(unittest.TestCase):
    """[10], and of [7] the refusal"""

    def check(self, outcome):
        before = list(outcome)
        told = must(outcome)
        self.assertEqual(before, outcome)
        self.assertIs(list, type(told))
        for pair in told:
            self.assertIs(tuple, type(pair))
            only_whole_numbers(self, pair)
        self.assertEqual(crossing_pairs(outcome), told)
        self.assertEqual(sorted(told), told)

    def test_told_by_hand(self):
        self.assertEqual([], must([0]))
        self.assertEqual([], must([0, 1]))
        self.assertEqual([(0, 1)], must([1, 0]))
        self.assertEqual([(0, 1), (0, 2)], must([2, 0, 1]))
        self.assertEqual([(0, 2), (1, 2)], must([1, 2, 0]))
        self.assertEqual([(0, 1), (0, 3), (1, 3), (2, 3)], must([2, 1, 3, 0]))

    def test_every_short_outcome(self):
        for length in range(1, 7):
            for outcome in permutations(range(length)):
                self.check(list(outcome))

    def test_everybody_stays_and_the_order_turned_round(self):
        for length in (1, 2, 3, 99, 100):
            self.assertEqual([], must(list(range(length))))
            every = list(combinations(range(length), 2))
            self.assertEqual(every, must(list(range(length - 1, -1, -1))))

    def test_100_numbers(self):
        for seed in range(8):
            self.check(mixed(100, seed))
            self.check(mixed(99, seed))

    def test_no_outcome(self):
        for wrong in no_outcomes():
            before = list(wrong)
            with self.subTest(length=len(wrong), first=wrong[:4]):
                refused(self, NoOutcome, must, wrong)
                self.assertEqual(before, wrong)

    def test_a_list_asked_again_after_a_change(self):
        outcome = [1, 0, 2]
        first = must(outcome)
        outcome[0] = 2
        refused(self, NoOutcome, must, outcome)
        outcome[2] = 1
        self.assertEqual([(0, 1), (0, 2)], must(outcome))
        self.assertEqual([(0, 1)], first)
        spoil(first)
        self.assertEqual([(0, 1)], must([1, 0, 2]))

    def test_argument_by_name(self):
        self.assertEqual([(0, 1)], must(outcome=[1, 0]))


class MeetingsOfPairs(unittest.TestCase):
    """[10]: how often, and by turns, each pair meets; and that no ladder has fewer rungs than pairs that must cross"""

    def check(self, ladder):
        pairs = by_pair(met(ladder))
        outcome = feet(ladder.posts, ladder.rungs)
        crossing = must(outcome)
        for pair in crossing:
            self.assertIn(pair, pairs)
        for pair, lefts in pairs.items():
            self.assertEqual(1 if pair in crossing else 0, len(lefts) % 2)
            self.assertEqual([pair[number % 2] for number in range(len(lefts))], lefts)
        self.assertLessEqual(len(crossing), len(ladder.rungs))

    def test_small_large_and_drawn_ladders(self):
        for posts, rungs, ladder in all_ladders():
            self.check(ladder)
        for ladder in drawn_ladders(150):
            self.check(ladder)

    def test_a_thin_ladder_lets_each_pair_that_must_cross_meet_once(self):
        for rungs in ((0, 1, 0), (1, 0, 1), (0, 1, 0, 2, 1, 0), (2, 1, 0, 2, 1, 2), (1, 3, 0), ()):
            ladder = Ladder(5, rungs)
            self.assertEqual(must(ladder.ends()), sorted(met(ladder)))


if __name__ == "__main__":
    unittest.main()
