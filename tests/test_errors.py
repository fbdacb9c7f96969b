"""The interface, ladderlots/errors.py."""

import unittest

from ladderlots.errors import LotError, NoOutcome, NoPost, NoRung, NoStep, Unlike

REFUSALS = (NoPost, NoRung, Unlike, NoOutcome, NoStep)


class Errors(unittest.TestCase):
    def test_any_refusal_is_a_value_error(self):
        self.assertTrue(issubclass(LotError, ValueError))
        self.assertIsNot(LotError, ValueError)

    def test_the_five_stand_under_lot_error(self):
        for refusal in REFUSALS:
            with self.subTest(refusal=refusal):
                self.assertTrue(issubclass(refusal, LotError))
                self.assertFalse(issubclass(LotError, refusal))

    def test_none_of_the_five_stands_under_another_one(self):
        for one in REFUSALS:
            for other in REFUSALS:
                if one is not other:
                    with self.subTest(one=one, other=other):
                        self.assertFalse(issubclass(one, other))
        self.assertEqual(5, len(set(REFUSALS)))

    def test_the_names(self):
        names = [refusal.__name__ for refusal in REFUSALS]
        self.assertEqual(["NoPost", "NoRung", "Unlike", "NoOutcome", "NoStep"], names)
        self.assertEqual("LotError", LotError.__name__)

    def test_each_is_caught_as_the_others_above_it(self):
        for refusal in REFUSALS:
            for above in (refusal, LotError, ValueError):
                with self.subTest(refusal=refusal, above=above):
                    with self.assertRaises(above):
                        raise refusal("no")


if __name__ == "__main__":
    unittest.main()
