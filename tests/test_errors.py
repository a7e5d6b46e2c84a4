"""The refusals: how they stand to one another and what they are made of."""

import unittest

from chainturn.errors import (
    ChainError, NoAnswer, NoKind, NoName, NoRoad, NoText, NoTurning, TooMany,
)

REFUSALS = [NoText, NoAnswer, NoKind, NoTurning, NoRoad, NoName, TooMany]


class Refusals(unittest.TestCase):
    def test_each_is_made_of_a_text_and_raised(self):
        for refusal in REFUSALS + [ChainError]:
            with self.subTest(refusal=refusal):
                with self.assertRaises(refusal) as caught:
                    raise refusal("a")
                self.assertEqual("a", str(caught.exception))

    def test_each_stands_under_chain_error_and_value_error(self):
        self.assertTrue(issubclass(ChainError, ValueError))
        for refusal in REFUSALS:
            with self.subTest(refusal=refusal):
                self.assertTrue(issubclass(refusal, ChainError))
                self.assertIsNot(refusal, ChainError)

    def test_none_stands_under_another_one(self):
        for one in REFUSALS:
            for other in REFUSALS:
                with self.subTest(one=one, other=other):
                    self.assertEqual(one is other, issubclass(one, other))


if __name__ == "__main__":
    unittest.main()
