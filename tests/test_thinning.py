"""Promise [13]: thinning."""

import unittest
from itertools import product

from ladderlots.ladders import Ladder
from ladderlots.thinning import kept, thinned
from tests.helper import (
    all_ladders, crossing_pairs, drawn_ladders, ends_by_turns, feet, only_whole_numbers, spoil, spread,
)


class Thinning(unittest.TestCase):
    def check(self, ladder):
        posts, rungs = ladder.posts, ladder.rungs
        numbers = kept(ladder)
        self.assertIs(list, type(numbers))
        only_whole_numbers(self, numbers)
        self.assertEqual(sorted(set(numbers)), numbers)
        self.assertTrue(set(numbers) <= set(range(len(rungs))))
        left = tuple(rungs[number] for number in numbers)
        ends = ends_by_turns(posts, rungs)
        self.assertEqual(ends, ends_by_turns(posts, left))
        self.assertEqual(len(crossing_pairs(ends)), len(left))
        thin = thinned(ladder)
        self.assertIsInstance(thin, Ladder)
        self.assertEqual(posts, thin.posts)
        self.assertIs(tuple, type(thin.rungs))
        self.assertEqual(left, thin.rungs)
        self.assertEqual((posts, rungs), (ladder.posts, ladder.rungs))

    def test_told_by_hand(self):
        self.assertEqual([0, 1], kept(Ladder(3, [0, 1])))
        self.assertEqual([], kept(Ladder(2, [0, 0])))
        self.assertIn(kept(Ladder(2, [0, 0, 0])), ([0], [1], [2]))
        self.assertEqual((0,), thinned(Ladder(2, [0, 0, 0])).rungs)
        self.assertEqual([], kept(Ladder(3, [0, 1, 0, 1, 0, 1])))
        # The first and the last rung undo one another, though others stand between.
        self.assertEqual((2,), thinned(Ladder(4, [0, 2, 0])).rungs)
        self.assertEqual([1], kept(Ladder(4, [0, 2, 0])))

    def test_no_rungs_and_one(self):
        for posts in (1, 2, 100):
            self.assertEqual([], kept(Ladder(posts)))
            thin = thinned(Ladder(posts))
            self.assertEqual((posts, ()), (thin.posts, thin.rungs))
        for posts, rung in ((2, 0), (3, 1), (100, 0), (100, 98)):
            self.assertEqual([0], kept(Ladder(posts, [rung])))
            self.assertEqual((rung,), thinned(Ladder(posts, [rung])).rungs)

    def test_a_thin_ladder_keeps_all_its_rungs(self):
        longest = [rung for first in range(99) for rung in range(first, -1, -1)]
        for posts, rungs in ((3, [0, 1, 0]), (3, [1, 0, 1]), (5, [3, 0, 2, 1]), (100, longest), (100, longest[::-1])):
            self.assertEqual(list(range(len(rungs))), kept(Ladder(posts, rungs)))
            self.assertEqual(tuple(rungs), thinned(Ladder(posts, rungs)).rungs)

    def test_thinned_twice_is_thinned_once(self):
        for ladder in drawn_ladders(60):
            thin = thinned(ladder)
            self.assertEqual(list(range(len(thin.rungs))), kept(thin))
            self.assertEqual(thin.rungs, thinned(thin).rungs)

    def test_every_ladder_of_few_rungs(self):
        for posts, most in ((2, 6), (3, 9), (4, 7), (5, 5)):
            for count in range(most + 1):
                for rungs in product(range(posts - 1), repeat=count):
                    self.check(Ladder(posts, rungs))

    def test_small_large_and_drawn_ladders(self):
        for posts, rungs, ladder in all_ladders():
            self.check(ladder)
        for ladder in drawn_ladders(150):
            self.check(ladder)
            self.assertEqual(feet(ladder.posts, ladder.rungs), thinned(ladder).ends())

    def test_five_thousand_rungs(self):
        for posts, seed in ((2, 1), (3, 2), (10, 3), (60, 4), (100, 5)):
            self.check(Ladder(posts, spread(5000, posts - 1, seed)))
        up_and_down = spread(2500, 99, 6)
        ladder = Ladder(100, up_and_down + up_and_down[::-1])
        self.assertEqual([], kept(ladder))
        self.assertEqual((100, ()), (thinned(ladder).posts, thinned(ladder).rungs))

    def test_thinned_is_of_just_the_rungs_that_are_told(self):
        for ladder in drawn_ladders(150):
            self.assertEqual(tuple(ladder.rungs[number] for number in kept(ladder)), thinned(ladder).rungs)

    def test_what_is_told_is_the_askers_own(self):
        for rungs in ([], [0, 1, 1, 0, 2], [2, 2, 1]):
            ladder = Ladder(4, rungs)
            first, thin = kept(ladder), thinned(ladder)
            before, left = list(first), thin.rungs
            second = kept(ladder)
            spoil(first)
            rungs.append(0)
            kept(Ladder(4, [0, 1, 2])), thinned(Ladder(4, [0, 1, 2]))
            self.assertEqual(before, second)
            self.assertEqual(before, kept(ladder))
            self.assertEqual((4, left), (thin.posts, thin.rungs))
            self.assertEqual(left, thinned(ladder).rungs)

    def test_argument_by_name(self):
        self.assertEqual([0], kept(ladder=Ladder(2, [0])))
        self.assertEqual((0,), thinned(ladder=Ladder(2, [0])).rungs)


if __name__ == "__main__":
    unittest.main()
