"""Point 3: the refusals."""

import unittest

from callmill.errors import MillError, NoForm, NoneYet, NoScript, TooMany

REFUSALS = (NoScript, TooMany, NoForm, NoneYet)


class Classes(unittest.TestCase):
    def test_any_refusal_is_a_value_error(self):
        self.assertEqual(MillError.__bases__, (ValueError,))

    def test_each_stands_straight_under_mill_error(self):
        for refusal in REFUSALS:
            with self.subTest(refusal=refusal.__name__):
                self.assertEqual(refusal.__bases__, (MillError,))

    def test_none_stands_under_another(self):
        for one in REFUSALS:
            for other in REFUSALS:
                if one is not other:
                    with self.subTest(one=one.__name__, other=other.__name__):
                        self.assertFalse(issubclass(one, other))

    def test_mill_error_is_none_of_them(self):
        for refusal in REFUSALS:
            with self.subTest(refusal=refusal.__name__):
                self.assertFalse(issubclass(MillError, refusal))

    def test_they_bear_their_names(self):
        names = [refusal.__name__ for refusal in REFUSALS]
        self.assertEqual(names, ["NoScript", "TooMany", "NoForm", "NoneYet"])


class Rows(unittest.TestCase):
    def test_the_row_is_kept(self):
        for row in (1, 2, 17, 4001):
            with self.subTest(row=row):
                error = NoScript(row)
                self.assertEqual(error.row, row)
                self.assertIs(type(error.row), int)

    def test_each_error_has_its_own_row(self):
        first = NoScript(3)
        second = NoScript(8)
        self.assertEqual((first.row, second.row), (3, 8))

    def test_a_raised_one_has_its_row(self):
        with self.assertRaises(NoScript) as caught:
            raise NoScript(5)
        self.assertEqual(caught.exception.row, 5)

    def test_it_is_taken_as_any_refusal(self):
        for kind in (MillError, ValueError):
            with self.subTest(kind=kind.__name__):
                with self.assertRaises(kind) as caught:
                    raise NoScript(6)
                self.assertEqual(caught.exception.row, 6)


if __name__ == "__main__":
    unittest.main()
