"""Promises [14] to [16]: steps and papers."""

import unittest
from itertools import product

from ladderlots.errors import NoStep
from ladderlots.ladders import Ladder
from ladderlots.papers import done, paper
from ladderlots.standing import standing
from tests.helper import (
    HUGE, all_ladders, drawn_ladders, ends_by_turns, refused, spoil, spread, stands_as_told,
)

OTHER_WORDS = ("", " ", "Apart", "APART", "apart ", " apart", "aparts", "turn ", "turned", "Turn", "tur", "in", "Out",
               "out ", "outs", "apartturn", "0", "None", "\u00f6ut", "out\n")


def behind(rungs, step):
    """[14] in its own words: the rungs behind a step, or None where it does not fit."""
    word, at = step
    if at not in range(len(rungs)):
        return None
    above, here = rungs[:at], rungs[at:]
    if word == "apart" and len(here) >= 2:
        one, two, *below = here
        if one - two >= 2 or two - one >= 2:
            return above + (two, one) + tuple(below)
    if word == "turn" and len(here) >= 3:
        k, j, again, *below = here
        if k == again and (j == k + 1 or j == k - 1):
            return above + (j, k, j) + tuple(below)
    if word == "out" and len(here) >= 2:
        one, two, *below = here
        if one == two:
            return above + tuple(below)
    return None


def same_ends(ladder, number):
    """Another ladder with the same ends: some rungs more, two alike ones each time, and others turned or apart."""
    rungs = list(ladder.rungs)
    for at, rung in zip(spread(number, len(rungs) + 1, number), spread(number, ladder.posts - 1, number + 1)):
        rungs[at:at] = [rung, rung]
    for at in range(len(rungs) - 1):
        if abs(rungs[at] - rungs[at + 1]) > 1 and at % 3:
            rungs[at:at + 2] = [rungs[at + 1], rungs[at]]
    for at in range(len(rungs) - 2):
        if rungs[at] == rungs[at + 2] and abs(rungs[at] - rungs[at + 1]) == 1:
            rungs[at:at + 3] = [rungs[at + 1], rungs[at], rungs[at + 1]]
    return Ladder(ladder.posts, rungs)


class Done(unittest.TestCase):
    """[14]"""

    def fits(self, posts, rungs, step, wanted):
        ladder = Ladder(posts, rungs)
        told = done(ladder, step)
        self.assertIsInstance(told, Ladder)
        self.assertEqual(posts, told.posts)
        self.assertIs(tuple, type(told.rungs))
        self.assertEqual(tuple(wanted), told.rungs)
        self.assertEqual((posts, tuple(rungs)), (ladder.posts, ladder.rungs))
        self.assertEqual(ends_by_turns(posts, rungs), ends_by_turns(posts, told.rungs))

    def does_not_fit(self, posts, rungs, word, at):
        ladder = Ladder(posts, rungs)
        with self.subTest(posts=posts, rungs=rungs[:9], word=word, at=at):
            refused(self, NoStep, done, ladder, (word, at))
            self.assertEqual((posts, tuple(rungs)), (ladder.posts, ladder.rungs))

    def test_apart(self):
        self.fits(4, [0, 2], ("apart", 0), [2, 0])
        self.fits(4, [2, 0], ("apart", 0), [0, 2])
        self.fits(5, [1, 0, 3, 1], ("apart", 1), [1, 3, 0, 1])
        self.fits(100, [0, 98], ("apart", 0), [98, 0])
        self.fits(100, [98, 0], ("apart", 0), [0, 98])

    def test_apart_by_just_2_at_the_first_and_the_last_place(self):
        for low in (0, 1, 5, 96):
            around = [3, 3, 4]
            self.fits(100, [low, low + 2] + around, ("apart", 0), [low + 2, low] + around)
            self.fits(100, [low + 2, low] + around, ("apart", 0), [low, low + 2] + around)
            self.fits(100, around + [low, low + 2], ("apart", 3), around + [low + 2, low])
            self.fits(100, around + [low + 2, low], ("apart", 3), around + [low, low + 2])

    def test_apart_by_0_and_by_1(self):
        for rungs in ([0, 0], [0, 1], [1, 0], [97, 98], [98, 97], [98, 98]):
            self.does_not_fit(100, rungs, "apart", 0)
            self.does_not_fit(100, [50] + rungs + [50], "apart", 1)

    def test_turn_with_j_one_less_and_one_greater(self):
        self.fits(3, [0, 1, 0], ("turn", 0), [1, 0, 1])
        self.fits(3, [1, 0, 1], ("turn", 0), [0, 1, 0])
        for k in (1, 2, 50, 97):
            for j in (k - 1, k + 1):
                around = [7, 70, 7, 7]
                self.fits(100, [k, j, k] + around, ("turn", 0), [j, k, j] + around)
                self.fits(100, around + [k, j, k], ("turn", 4), around + [j, k, j])
                self.fits(100, around[:2] + [k, j, k] + around[2:], ("turn", 2), around[:2] + [j, k, j] + around[2:])

    def test_turn_on_other_rungs(self):
        wrong = (
            [2, 2, 2], [2, 4, 2], [4, 2, 4], [1, 2, 3], [3, 2, 1], [1, 2, 2], [1, 1, 2], [2, 1, 1], [2, 2, 1],
            [1, 2, 0], [0, 1, 2], [1, 0, 2], [1, 5, 1], [0, 98, 0], [3, 2, 4], [2, 3, 5],
        )
        for rungs in wrong:
            self.does_not_fit(100, rungs, "turn", 0)
            self.does_not_fit(100, [9] + rungs, "turn", 1)
            self.does_not_fit(100, rungs + [9], "turn", 0)

    def test_turn_where_less_than_three_rungs_are_left(self):
        for rungs in ([], [0], [1, 0], [0, 1]):
            for at in range(len(rungs) + 1):
                self.does_not_fit(3, rungs, "turn", at)
        for at in (1, 2, 3):
            self.does_not_fit(3, [0, 1, 0], "turn", at)
        # From the last rung on it must not go on with the first one.
        self.does_not_fit(3, [1, 0, 0, 0], "turn", 2)
        self.does_not_fit(3, [0, 1, 0, 1], "turn", 2)
        self.does_not_fit(3, [0, 1, 0, 1], "turn", 3)

    def test_out(self):
        self.fits(2, [0, 0], ("out", 0), [])
        self.fits(3, [1, 0, 0], ("out", 1), [1])
        self.fits(3, [0, 0, 1], ("out", 0), [1])
        self.fits(100, [98, 98, 0, 1], ("out", 0), [0, 1])
        self.fits(100, [0, 1, 98, 98], ("out", 2), [0, 1])
        self.fits(3, [1, 1, 1], ("out", 0), [1])
        self.fits(3, [1, 1, 1], ("out", 1), [1])
        self.fits(4, [0, 1, 2, 2, 1, 0], ("out", 2), [0, 1, 1, 0])

    def test_out_on_rungs_that_are_not_alike(self):
        for rungs in ([0, 1], [1, 0], [0, 2], [2, 0], [0, 98], [98, 97]):
            self.does_not_fit(100, rungs, "out", 0)
            self.does_not_fit(100, rungs[:1] + rungs + rungs[1:], "out", 1)
        # Alike ones with another rung between, and the last one with the first one.
        self.does_not_fit(4, [0, 2, 0], "out", 0)
        self.does_not_fit(4, [0, 2, 0], "out", 2)
        self.does_not_fit(4, [0, 2, 0], "out", -1)

    def test_places_that_are_none(self):
        longs = ([0, 0], [0, 2], [2, 0, 2], [1, 2, 1], [0, 0, 0, 0], [0, 2, 0, 2], [1, 0, 1, 0, 1], [0, 1, 0, 2, 2])
        for rungs in longs:
            count = len(rungs)
            for word in ("apart", "turn", "out"):
                for at in (-1, -2, -3, -count, -count - 1, count - 1, count, count + 1, 1000, HUGE, -HUGE, -10 ** 30):
                    self.does_not_fit(4, rungs, word, at)

    def test_no_rungs_and_one(self):
        for posts, rungs in ((1, []), (2, []), (100, []), (2, [0]), (100, [98])):
            for word in ("apart", "turn", "out", "", "in"):
                for at in (0, 1, -1, -2, 2, HUGE, -HUGE):
                    self.does_not_fit(posts, rungs, word, at)

    def test_other_words(self):
        for word in OTHER_WORDS:
            for rungs in ([], [0], [0, 0], [0, 2], [0, 1, 0], [0, 0, 2, 1, 2]):
                for at in (0, 1, 2, -1, len(rungs), HUGE, -HUGE):
                    self.does_not_fit(4, rungs, word, at)

    def test_every_step_at_every_ladder_of_few_rungs(self):
        fitting = 0
        for posts, most in ((2, 4), (3, 5), (4, 5), (5, 4), (6, 3)):
            for count in range(most + 1):
                for rungs in product(range(posts - 1), repeat=count):
                    ladder = Ladder(posts, rungs)
                    for word, at in product(("apart", "turn", "out", "in"), range(-count - 1, count + 2)):
                        wanted = behind(rungs, (word, at))
                        if wanted is None:
                            refused(self, NoStep, done, ladder, (word, at))
                        else:
                            fitting += 1
                            told = done(ladder, (word, at))
                            self.assertEqual((posts, wanted), (told.posts, told.rungs))
                            self.assertEqual(ends_by_turns(posts, rungs), ends_by_turns(posts, told.rungs))
                    self.assertEqual(rungs, ladder.rungs)
        self.assertGreater(fitting, 1000)

    def test_five_thousand_rungs(self):
        rungs = [0, 2, 1, 2, 3, 3] + spread(4988, 99, 12) + [3, 3, 1, 2, 1, 3]
        ladder = Ladder(100, rungs)
        self.assertEqual(5000, len(rungs))
        for word, at in (("apart", 0), ("apart", 4998), ("turn", 1), ("turn", 4996), ("out", 4), ("out", 4994)):
            wanted = behind(ladder.rungs, (word, at))
            self.assertIsNotNone(wanted)
            self.fits(100, rungs, (word, at), wanted)
        for word in ("apart", "turn", "out"):
            for at in (4999, 5000, 5001, -1, -5000, -5001):
                refused(self, NoStep, done, ladder, (word, at))

    def test_nothing_handed_in_is_changed(self):
        rungs = [0, 0, 2]
        ladder, step = Ladder(4, rungs), ("out", 0)
        told = done(ladder, step)
        self.assertEqual(("out", 0), step)
        self.assertEqual([0, 0, 2], rungs)
        rungs.clear()
        self.assertEqual((2,), told.rungs)
        self.assertEqual((0, 0, 2), ladder.rungs)
        self.assertEqual((0, 2, 0), done(ladder, ("apart", 1)).rungs)
        self.assertEqual((2,), done(ladder, step).rungs)
        self.assertEqual((2,), told.rungs)

    def test_arguments_by_name(self):
        self.assertEqual((), done(ladder=Ladder(2, [0, 0]), step=("out", 0)).rungs)


class Paper(unittest.TestCase):
    """[15], [16]"""

    def check(self, ladder):
        posts, rungs = ladder.posts, ladder.rungs
        count = len(rungs)
        ends = ends_by_turns(posts, rungs)
        steps = paper(ladder)
        self.assertEqual((posts, rungs), (ladder.posts, ladder.rungs))
        self.assertIs(list, type(steps))
        self.assertLessEqual(len(steps), count * (count - 1) // 2)
        now = ladder
        for step in steps:
            self.assertIs(tuple, type(step))
            self.assertEqual([str, int], [type(part) for part in step])
            wanted = behind(now.rungs, step)
            self.assertIsNotNone(wanted)
            now = done(now, step)
            self.assertEqual((posts, wanted), (now.posts, now.rungs))
            self.assertEqual(ends, ends_by_turns(posts, wanted))
        self.assertTrue(stands_as_told(now.rungs))
        self.assertEqual(standing(ends).rungs, now.rungs)
        return now.rungs

    def test_told_by_hand(self):
        # No other paper would do: one step is the most, or behind it none fits any more.
        self.assertEqual([("out", 0)], paper(Ladder(2, [0, 0])))
        self.assertEqual([("apart", 0)], paper(Ladder(4, [2, 0])))
        self.assertEqual([("out", 0)], paper(Ladder(3, [1, 1, 0])))
        self.assertEqual([], paper(Ladder(4, [1, 2])))
        self.assertEqual([], paper(Ladder(4, [2, 1])))
        # Others would do here, but where they lead is sure.
        self.assertEqual((0, 1, 0), self.check(Ladder(3, [1, 0, 1])))
        self.assertEqual((0, 2), self.check(Ladder(4, [2, 1, 1, 0])))
        self.assertEqual((0,), self.check(Ladder(3, [1, 0, 1, 0, 1])))

    def test_no_steps_where_none_can_be(self):
        for posts, rungs in ((1, []), (2, []), (100, []), (2, [0]), (100, [0]), (100, [98])):
            self.assertEqual([], paper(Ladder(posts, rungs)))
            self.check(Ladder(posts, rungs))

    def test_two_rungs(self):
        for rungs in product(range(6), repeat=2):
            self.check(Ladder(7, rungs))

    def test_every_ladder_of_few_rungs(self):
        for posts, most in ((2, 6), (3, 8), (4, 6), (5, 5), (6, 4)):
            for count in range(most + 1):
                for rungs in product(range(posts - 1), repeat=count):
                    self.check(Ladder(posts, rungs))

    def test_small_large_and_drawn_ladders(self):
        for posts, rungs, ladder in all_ladders():
            if len(rungs) <= 100:
                self.check(ladder)
        for ladder in drawn_ladders(60):
            self.check(ladder)

    def test_three_hundred_rungs(self):
        for posts, seed in ((2, 1), (3, 2), (7, 3), (30, 4), (100, 5)):
            self.check(Ladder(posts, spread(300, posts - 1, seed)))

    def test_three_hundred_rungs_that_stand_or_fall(self):
        rising = [rung for first in range(24) for rung in range(first, -1, -1)]
        self.assertEqual(300, len(rising))
        self.assertEqual(tuple(rising), self.check(Ladder(25, rising)))
        self.check(Ladder(25, rising[::-1]))
        self.check(Ladder(25, [23 - rung for rung in rising]))
        self.assertEqual((), self.check(Ladder(25, rising[:150] + rising[149::-1])))
        self.check(Ladder(100, [99 - 2 - number % 50 for number in range(150)] + list(range(48, 0, -1)) * 3 + [0] * 6))

    def test_two_ladders_have_the_same_ends_just_where_their_papers_lead_to_one(self):
        for posts, most in ((2, 5), (3, 7), (4, 5)):
            led = {}
            for count in range(most + 1):
                for rungs in product(range(posts - 1), repeat=count):
                    now = Ladder(posts, rungs)
                    for step in paper(now):
                        now = done(now, step)
                    led.setdefault(tuple(ends_by_turns(posts, rungs)), set()).add(now.rungs)
            # One for all with the same ends, and another one for other ends.
            self.assertTrue(all(len(rungs) == 1 for rungs in led.values()))
            self.assertEqual(len(led), len({rung for rungs in led.values() for rung in rungs}))

    def test_others_with_the_same_ends_lead_to_one_ladder(self):
        for number, ladder in enumerate(drawn_ladders(20)):
            if ladder.posts == 1:
                continue
            other = same_ends(ladder, number % 7 + 1)
            self.assertNotEqual(ladder.rungs, other.rungs)
            self.assertEqual(ends_by_turns(ladder.posts, ladder.rungs), ends_by_turns(other.posts, other.rungs))
            self.assertEqual(self.check(ladder), self.check(other))

    def test_the_paper_of_a_ladder_with_other_ends_leads_elsewhere(self):
        for ladder in drawn_ladders(20):
            if ladder.posts > 1:
                other = ladder.above(Ladder(ladder.posts, [ladder.posts - 2]))
                self.assertNotEqual(self.check(ladder), self.check(other))

    def test_what_is_told_is_the_askers_own(self):
        for rungs in ([], [0, 0, 2, 1, 2, 0], [2, 1, 0, 2]):
            ladder = Ladder(4, rungs)
            first = paper(ladder)
            before = list(first)
            second = paper(ladder)
            spoil(first)
            rungs.append(1)
            paper(Ladder(4, [1, 1, 0, 2, 0])), paper(Ladder(3, [1, 0, 1]))
            self.assertEqual(before, second)
            self.assertEqual(before, paper(ladder))
            self.assertEqual((4, tuple(rungs[:-1])), (ladder.posts, ladder.rungs))

    def test_asked_by_turns_and_again(self):
        every = drawn_ladders(20)
        first = [paper(ladder) for ladder in every]
        again = [paper(ladder) for ladder in reversed(every)]
        self.assertEqual(first, again[::-1])

    def test_argument_by_name(self):
        self.assertEqual([("out", 0)], paper(ladder=Ladder(2, [0, 0])))


if __name__ == "__main__":
    unittest.main()
