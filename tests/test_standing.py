"""Promises [11] and [12], and of [7] the refusal: standing ladders."""

import unittest
from itertools import permutations, product

from ladderlots.errors import NoOutcome
from ladderlots.ladders import Ladder
from ladderlots.standing import standing, stands
from tests.helper import (
    all_ladders, crossing_pairs, drawn_ladders, ends_by_turns, feet, mixed, no_outcomes, only_whole_numbers, refused,
    spoil, stands_as_told,
)


def thin_ladders(posts):
    """For each outcome of so many numbers the rungs of all thin ladders with these ends.

    A thin ladder without its last rung is thin, so they all come of thin ones by one more rung.
    """
    found = {}
    now = [()]
    while now:
        longer = []
        for rungs in now:
            found.setdefault(tuple(feet(posts, rungs)), []).append(rungs)
            longer += [rungs + (rung,) for rung in range(posts - 1)]
        now = [rungs for rungs in longer if len(crossing_pairs(feet(posts, rungs))) == len(rungs)]
    return found


class Stands(unittest.TestCase):
    """[11]"""

    def check(self, wanted, posts, rungs):
        ladder = Ladder(posts, rungs)
        self.assertIs(wanted, stands(ladder))
        self.assertEqual((posts, tuple(rungs)), (ladder.posts, ladder.rungs))

    def test_no_rungs_and_one(self):
        for posts in (1, 2, 3, 99, 100):
            self.check(True, posts, [])
        for posts in (2, 3, 99, 100):
            for rung in {0, posts // 2 - 1, posts - 2}:
                self.check(True, posts, [rung])

    def test_one_drop(self):
        for posts in (3, 4, 7, 100):
            for first in range(posts - 1):
                self.check(True, posts, list(range(first, -1, -1)))
                self.check(True, posts, list(range(first, first // 2 - 1, -1)))

    def test_several_drops_that_rise(self):
        self.check(True, 3, [0, 1])
        self.check(True, 3, [0, 1, 0])
        self.check(True, 4, [0, 2])
        self.check(True, 4, [1, 0, 2, 1, 0])
        self.check(True, 6, [0, 1, 0, 3, 2, 4, 3, 2, 1, 0])
        self.check(True, 100, list(range(99)))

    def test_first_rungs_alike(self):
        self.check(False, 2, [0, 0])
        self.check(False, 3, [1, 1])
        self.check(False, 3, [1, 1, 0])
        self.check(False, 3, [1, 0, 1])
        self.check(False, 3, [1, 0, 1, 0])
        self.check(False, 4, [0, 2, 1, 2])
        self.check(False, 100, [98, 98])

    def test_first_rungs_that_fall(self):
        self.check(False, 4, [2, 0])
        self.check(False, 4, [2, 1, 1])
        self.check(False, 4, [2, 1, 0, 1])
        self.check(False, 4, [2, 1, 0, 0])
        self.check(False, 5, [0, 1, 3, 1])
        self.check(False, 100, [98, 0])
        self.check(False, 100, list(range(98, -1, -1)) + [0])

    def test_against_an_earlier_drop_and_not_the_rung_ahead_alone(self):
        # The last rung rises from the one ahead of it, but not from the first of the drop ahead.
        self.check(False, 5, [3, 2, 1, 0, 1])
        self.check(False, 5, [3, 2, 1, 2])
        # A drop that ends low and one that begins just above the first of the drop ahead.
        self.check(True, 5, [2, 1, 0, 3])

    def test_every_ladder_of_few_rungs(self):
        for posts, most in ((2, 5), (3, 8), (4, 7), (5, 5)):
            for count in range(most + 1):
                for rungs in product(range(posts - 1), repeat=count):
                    self.assertIs(stands_as_told(rungs), stands(Ladder(posts, rungs)))

    def test_as_many_of_them_as_outcomes(self):
        for posts, outcomes in ((2, 2), (3, 6), (4, 24)):
            longest = posts * (posts - 1) // 2
            every = [Ladder(posts, rungs) for count in range(longest + 1)
                     for rungs in product(range(posts - 1), repeat=count)]
            self.assertEqual(outcomes, len([ladder for ladder in every if stands(ladder)]))

    def test_large_ladders(self):
        for posts, rungs, ladder in all_ladders():
            self.assertIs(stands_as_told(rungs), stands(ladder))
        longest = [rung for first in range(99) for rung in range(first, -1, -1)]
        self.assertEqual(4950, len(longest))
        self.check(True, 100, longest)
        self.check(False, 100, longest + [98])
        self.check(False, 100, longest + [0] * 50)
        for at in (0, 1, 100, 2500, 4949):
            twice = longest[:at] + longest[at:at + 1] + longest[at:]
            self.check(stands_as_told(twice), 100, twice)
            self.assertFalse(stands_as_told(twice))

    def test_asked_again_and_by_turns(self):
        one, two = Ladder(3, [0, 1, 0]), Ladder(3, [1, 0, 1])
        for turn in range(3):
            self.assertIs(True, stands(one))
            self.assertIs(False, stands(two))

    def test_argument_by_name(self):
        self.assertIs(True, stands(ladder=Ladder(2, [0])))


class Standing(unittest.TestCase):
    """[12], and of [7] the refusal"""

    def check(self, outcome):
        before = list(outcome)
        ladder = standing(outcome)
        self.assertEqual(before, outcome)
        self.assertIsInstance(ladder, Ladder)
        self.assertEqual(len(outcome), ladder.posts)
        self.assertIs(tuple, type(ladder.rungs))
        only_whole_numbers(self, ladder.rungs)
        self.assertTrue(stands_as_told(ladder.rungs))
        self.assertIs(True, stands(ladder))
        self.assertEqual(before, feet(ladder.posts, ladder.rungs))
        self.assertEqual(before, ladder.ends())
        self.assertEqual(len(crossing_pairs(outcome)), len(ladder.rungs))

    def test_told_by_hand(self):
        self.assertEqual((), standing([0]).rungs)
        self.assertEqual((0,), standing([1, 0]).rungs)
        self.assertEqual((0, 1), standing([2, 0, 1]).rungs)
        self.assertEqual((1, 0), standing([1, 2, 0]).rungs)
        self.assertEqual((0, 1, 0), standing([2, 1, 0]).rungs)
        self.assertEqual((0, 2), standing([1, 0, 3, 2]).rungs)
        self.assertEqual((1, 0, 2, 1), standing([2, 3, 0, 1]).rungs)

    def test_every_short_outcome(self):
        for length in range(1, 7):
            for outcome in permutations(range(length)):
                self.check(list(outcome))

    def test_it_comes_first_of_all_thin_ladders(self):
        for posts in range(1, 6):
            found = thin_ladders(posts)
            self.assertEqual(set(permutations(range(posts))), set(found))
            for outcome, every in found.items():
                self.assertEqual(min(every), standing(list(outcome)).rungs)
                # Of the thin ones just this one stands.
                self.assertEqual([min(every)], [rungs for rungs in every if stands(Ladder(posts, rungs))])

    def test_a_standing_ladder_is_the_one_of_its_ends(self):
        for posts, most in ((1, 0), (2, 4), (3, 7), (4, 7)):
            for count in range(most + 1):
                for rungs in product(range(posts - 1), repeat=count):
                    same = standing(feet(posts, rungs)).rungs == rungs
                    self.assertIs(stands(Ladder(posts, rungs)), same)

    def test_everybody_stays(self):
        for length in (1, 2, 3, 99, 100):
            ladder = standing(list(range(length)))
            self.assertEqual((length, ()), (ladder.posts, ladder.rungs))

    def test_the_order_turned_round(self):
        for length in (1, 2, 3, 99, 100):
            ladder = standing(list(range(length - 1, -1, -1)))
            longest = tuple(rung for first in range(length - 1) for rung in range(first, -1, -1))
            self.assertEqual((length, longest), (ladder.posts, ladder.rungs))
        self.assertEqual(4950, len(ladder.rungs))

    def test_one_walker_goes_all_the_way(self):
        for length in (2, 5, 100):
            last_first = standing(list(range(1, length)) + [0])
            self.assertEqual(tuple(range(length - 2, -1, -1)), last_first.rungs)
            first_last = standing([length - 1] + list(range(length - 1)))
            self.assertEqual(tuple(range(length - 1)), first_last.rungs)

    def test_100_numbers(self):
        for seed in range(5):
            self.check(mixed(100, seed))
            self.check(mixed(57, seed))

    def test_of_the_ends_of_other_ladders(self):
        every = [ladder for posts, rungs, ladder in all_ladders()] + drawn_ladders(150)
        for ladder in every:
            ends = ends_by_turns(ladder.posts, ladder.rungs)
            self.check(ends)
            self.assertLessEqual(len(standing(ends).rungs), len(ladder.rungs))

    def test_no_outcome(self):
        for wrong in no_outcomes():
            before = list(wrong)
            with self.subTest(length=len(wrong), first=wrong[:4]):
                refused(self, NoOutcome, standing, wrong)
                self.assertEqual(before, wrong)

    def test_the_list_changed_afterwards_changes_nothing(self):
        outcome = [2, 1, 0]
        ladder = standing(outcome)
        spoil(outcome)
        self.assertEqual((3, (0, 1, 0)), (ladder.posts, ladder.rungs))
        self.assertEqual([2, 1, 0], ladder.ends())
        self.assertEqual((0, 1, 0), standing([2, 1, 0]).rungs)

    def test_asked_by_turns_and_again(self):
        outcomes = [list(outcome) for outcome in permutations(range(4))]
        first = [standing(outcome) for outcome in outcomes]
        told = [ladder.rungs for ladder in first]
        again = [standing(outcome).rungs for outcome in reversed(outcomes)]
        self.assertEqual(told, again[::-1])
        self.assertEqual(told, [ladder.rungs for ladder in first])

    def test_argument_by_name(self):
        self.assertEqual((0,), standing(outcome=[1, 0]).rungs)


if __name__ == "__main__":
    unittest.main()
