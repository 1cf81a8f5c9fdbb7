"""The error classes of the interface."""

import unittest

from wipeways import errors
from wipeways.errors import NoAnswer, NoCode, NoRow, NoText, NoTurn, TooLong, WipeError

MADE_WITH_TEXT = (NoText, TooLong, NoCode, NoTurn, NoRow)


class TestErrors(unittest.TestCase):

    def test_wipe_error_stands_under_value_error(self):
        self.assertEqual(WipeError.__bases__, (ValueError,))

    def test_each_stands_straight_under_wipe_error(self):
        for kind in MADE_WITH_TEXT + (NoAnswer,):
            with self.subTest(kind=kind):
                self.assertEqual(kind.__bases__, (WipeError,))

    def test_none_stands_under_another(self):
        kinds = MADE_WITH_TEXT + (NoAnswer,)
        for kind in kinds:
            for other in kinds:
                if kind is not other:
                    with self.subTest(kind=kind, other=other):
                        self.assertFalse(issubclass(kind, other))

    def test_each_is_defined_in_errors(self):
        for kind in MADE_WITH_TEXT + (NoAnswer, WipeError):
            with self.subTest(kind=kind):
                self.assertEqual(kind.__module__, errors.__name__)
                self.assertIs(getattr(errors, kind.__name__), kind)

    def test_made_with_a_text(self):
        for kind in MADE_WITH_TEXT + (WipeError,):
            with self.subTest(kind=kind):
                self.assertEqual(str(kind("why not")), "why not")
                with self.assertRaises(WipeError) as caught:
                    raise kind("why not")
                self.assertIs(type(caught.exception), kind)

    def test_the_number_of_an_answer(self):
        for number in (3, 0, 1, 299, 10 ** 5000):
            with self.subTest(bits=number.bit_length()):
                self.assertEqual(NoAnswer(number).number, number)
                self.assertIs(type(NoAnswer(number).number), int)

    def test_each_answer_keeps_its_own_number(self):
        first, second = NoAnswer(1), NoAnswer(2)
        self.assertEqual((first.number, second.number), (1, 2))

    def test_an_answer_that_is_raised(self):
        with self.assertRaises(ValueError) as caught:
            raise NoAnswer(7)
        self.assertEqual(caught.exception.number, 7)
        self.assertIsInstance(str(caught.exception), str)


if __name__ == "__main__":
    unittest.main()
