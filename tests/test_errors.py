import unittest

from heedwise.errors import HeedError, NoName, NoRow, NoRule, NoTurn, NoWay, Twice

REFUSALS = (NoTurn, NoRow, NoRule, NoWay, NoName, Twice)


class ErrorsTest(unittest.TestCase):
    def test_any_refusal_is_a_value_error(self):
        self.assertEqual(HeedError.__bases__, (ValueError,))

    def test_each_stands_straight_under_heed_error(self):
        for refusal in REFUSALS:
            self.assertEqual(refusal.__bases__, (HeedError,))

    def test_none_stands_under_another_one(self):
        for one in REFUSALS:
            for other in REFUSALS:
                self.assertEqual(issubclass(one, other), one is other)

    def test_no_turn_and_no_row_have_a_number(self):
        for refusal in (NoTurn, NoRow):
            for number in (0, 7, 59):
                with self.assertRaises(HeedError) as caught:
                    raise refusal(number)
                self.assertIs(type(caught.exception), refusal)
                self.assertEqual(caught.exception.number, number)

    def test_the_others_are_raised_and_taken(self):
        for refusal in (NoRule, NoWay, NoName, Twice):
            with self.assertRaises(HeedError) as caught:
                raise refusal("words")
            self.assertIs(type(caught.exception), refusal)


if __name__ == "__main__":
    unittest.main()
