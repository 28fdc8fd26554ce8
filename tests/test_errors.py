import unittest

from fewbrackets.errors import BracketError, MixedSides, NoLine, NoTable, TwiceThere

REFUSALS = [NoTable, TwiceThere, MixedSides, NoLine]


class Errors(unittest.TestCase):
    def test_bracket_error_is_a_value_error(self):
        self.assertEqual(BracketError.__bases__, (ValueError,))

    def test_each_refusal_stands_straight_under_bracket_error(self):
        for refusal in REFUSALS:
            with self.subTest(refusal=refusal.__name__):
                self.assertEqual(refusal.__bases__, (BracketError,))
                self.assertTrue(issubclass(refusal, ValueError))

    def test_no_refusal_is_another_one(self):
        for one in REFUSALS:
            for other in REFUSALS:
                with self.subTest(one=one.__name__, other=other.__name__):
                    self.assertEqual(issubclass(one, other), one is other)

    def test_the_classes_bear_their_own_names(self):
        names = [refusal.__name__ for refusal in REFUSALS + [BracketError]]
        self.assertEqual(names, ["NoTable", "TwiceThere", "MixedSides", "NoLine", "BracketError"])

    def test_each_can_be_raised_and_taken_as_any_refusal(self):
        for refusal in REFUSALS:
            for taken_as in (refusal, BracketError, ValueError):
                with self.subTest(refusal=refusal.__name__, taken_as=taken_as.__name__):
                    with self.assertRaises(taken_as):
                        raise refusal("some words")


if __name__ == "__main__":
    unittest.main()
