"""Promises [2], [7] and [8]: outcomes and places."""

import unittest
from itertools import permutations, product

from ladderlots.errors import NoOutcome
from ladderlots.outcomes import is_outcome, places
from tests.helper import HUGE, only_whole_numbers, refused, spread


def told_places(things):
    """[8] in its own words: how many are less, and how many ahead are alike."""
    return [
        sum(1 for other in things if other < thing) + sum(1 for other in things[:at] if other == thing)
        for at, thing in enumerate(things)
    ]


class IsOutcome(unittest.TestCase):
    """[7]"""

    def check(self, wanted, some):
        before = list(some)
        self.assertIs(wanted, is_outcome(some))
        self.assertEqual(before, some)

    def test_every_short_list(self):
        for length in range(6):
            outcomes = set(permutations(range(length))) if length else set()
            for numbers in product(range(-1, length + 1), repeat=length):
                self.check(numbers in outcomes, list(numbers))

    def test_the_edges_of_length(self):
        self.check(False, [])
        self.check(True, [0])
        for length in (1, 2, 98, 99, 100):
            self.check(True, list(range(length)))
            self.check(True, list(range(length - 1, -1, -1)))
        for length in (101, 102, 200, 1000):
            self.check(False, list(range(length)))
            self.check(False, list(range(length - 1, -1, -1)))

    def test_mixed_ones_of_100(self):
        mixed = sorted(range(100), key=lambda at: at * 37 % 100)
        self.check(True, mixed)
        for at in range(100):
            for wrong in (-1, 100, 101, HUGE, -HUGE, mixed[at - 1], mixed[at] - 100):
                self.check(False, mixed[:at] + [wrong] + mixed[at + 1:])

    def test_a_number_left_out(self):
        for left_out in range(99):
            self.check(False, [number for number in range(100) if number != left_out])
        self.check(True, list(range(99)))

    def test_a_number_twice(self):
        for twice in range(99):
            self.check(False, list(range(99)) + [twice])
        self.check(False, list(range(100)) + [0])
        self.check(False, [0, 0])
        self.check(False, [1, 1])

    def test_same_sum_least_and_greatest_but_no_outcome(self):
        self.check(False, [0, 0, 3, 3])
        self.check(False, [1, 1, 1])
        self.check(False, [0, 1, 1, 4, 4, 5])
        self.check(False, [0, 3, 0, 3])

    def test_single_and_large_numbers(self):
        for number in (-1, 1, 2, 100, HUGE, -HUGE, 2 ** 64, -(2 ** 64)):
            self.check(False, [number])
            self.check(False, [0, number, 0])
        self.check(True, [1, 0])
        self.check(False, [1, 2])
        self.check(False, [1, 2, 3])

    def test_asked_again_after_the_list_was_changed(self):
        some = [1, 0, 2]
        self.check(True, some)
        some[2] = 3
        self.check(False, some)
        some[2] = 2
        self.check(True, some)
        some.append(2)
        self.check(False, some)

    def test_argument_by_name(self):
        self.assertIs(True, is_outcome(some=[1, 0]))


class Places(unittest.TestCase):
    """[8]"""

    def check(self, things):
        before = list(things)
        told = places(things)
        self.assertEqual(before, things)
        self.assertIs(list, type(told))
        self.assertIsNot(things, told)
        only_whole_numbers(self, told)
        self.assertEqual(told_places(things), told)
        self.assertIs(True, is_outcome(told))

    def test_told_by_hand(self):
        self.assertEqual([0], places([7]))
        self.assertEqual([0, 1, 2], places([5, 5, 5]))
        self.assertEqual([2, 0, 1], places([30, 10, 20]))
        self.assertEqual([1, 2, 0], places([20, 30, 10]))
        self.assertEqual([3, 0, 4, 1, 2], places([9, -4, 9, -4, 0]))
        self.assertEqual([2, 1, 0], places([-1, -2, -3]))

    def test_every_short_list(self):
        for length in range(1, 6):
            for numbers in product((-2, 0, 1, 3), repeat=length):
                self.check(list(numbers))

    def test_one_number(self):
        for number in (0, 1, -1, 100, HUGE, -HUGE):
            self.assertEqual([0], places([number]))

    def test_100_numbers(self):
        self.check(list(range(100)))
        self.check(list(range(100, 0, -1)))
        self.check([0] * 100)
        self.check([-3] * 100)
        self.check(spread(100, 10, 7))
        self.check(spread(99, 1000, 8))
        self.check([number - 500 for number in spread(100, 1000, 9)])
        self.assertEqual(list(range(100)), places([4] * 100))

    def test_large_numbers(self):
        self.assertEqual([2, 1, 3, 0], places([HUGE - 1, HUGE - 2, HUGE, -HUGE]))
        self.assertEqual([1, 0, 2], places([1 - HUGE, -HUGE, 2 - HUGE]))
        self.assertEqual([1, 0], places([2 ** 53 + 1, 2 ** 53]))
        self.check([HUGE - number for number in spread(100, 50, 10)])
        self.check([number - HUGE for number in spread(100, 50, 11)])

    def test_the_places_of_an_outcome_are_itself(self):
        for outcome in permutations(range(5)):
            self.assertEqual(list(outcome), places(list(outcome)))

    def test_none_and_more_than_100(self):
        refused(self, NoOutcome, places, [])
        for length in (101, 102, 150, 1000):
            for things in (list(range(length)), [1] * length, [HUGE] * length):
                before = list(things)
                refused(self, NoOutcome, places, things)
                self.assertEqual(before, things)

    def test_what_is_told_is_the_askers_own(self):
        things = [3, 1, 2]
        first = places(things)
        first[0] = 99
        first.append(5)
        self.assertEqual([2, 0, 1], places(things))
        second = places(things)
        things[0] = 0
        self.assertEqual([2, 0, 1], second)
        self.assertEqual([0, 1, 2], places(things))
        self.assertEqual([2, 0, 1], second)
        self.assertEqual([2, 0, 1], places([3, 1, 2]))

    def test_argument_by_name(self):
        self.assertEqual([1, 0], places(things=[8, 7]))


if __name__ == "__main__":
    unittest.main()
