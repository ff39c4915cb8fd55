"""[2]: the classes of refusals."""

import unittest

from namelines import errors

WORDED = ("NoPlace", "NoName", "Down", "NoLine", "NoHouse", "NotSo")
WITH_ROW = ("BadRow", "BadSheet")


class Errors(unittest.TestCase):
    def test_line_error_stands_under_value_error(self):
        self.assertEqual(errors.LineError.__bases__, (ValueError,))

    def test_each_refusal_stands_straight_under_line_error(self):
        for name in WORDED + WITH_ROW:
            with self.subTest(name):
                self.assertEqual(getattr(errors, name).__bases__, (errors.LineError,))

    def test_there_is_no_other_refusal(self):
        found = {name for name, thing in vars(errors).items() if isinstance(thing, type)}
        self.assertEqual(found, {"LineError", *WORDED, *WITH_ROW})

    def test_none_is_caught_as_another_one(self):
        classes = [getattr(errors, name) for name in WORDED + WITH_ROW]
        for one in classes:
            for other in classes:
                self.assertEqual(issubclass(one, other), one is other)

    def test_made_with_words(self):
        for name in WORDED:
            with self.subTest(name):
                with self.assertRaises(errors.LineError) as caught:
                    raise getattr(errors, name)("why not")
                self.assertEqual(str(caught.exception), "why not")

    def test_made_with_a_row(self):
        for name in WITH_ROW:
            for row in (0, 1, 200):
                with self.subTest(name, row=row):
                    with self.assertRaises(errors.LineError) as caught:
                        raise getattr(errors, name)(row)
                    self.assertEqual(caught.exception.row, row)


if __name__ == "__main__":
    unittest.main()
