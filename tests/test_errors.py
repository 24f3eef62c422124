"""The refusals: each stands under ViewError and ValueError, and under no other refusal."""

import unittest

from viewkeep import errors
from viewkeep.errors import (NoChange, NoCount, NoName, NoPlace, NoRow, NoText, NoWidth, Short, TooLarge, Twice,
                             Unlike, ViewError, Wide)

REFUSALS = [NoName, NoPlace, Unlike, Wide, Twice, NoText, TooLarge, NoWidth, NoRow, NoCount, Short, NoChange]


class TestErrors(unittest.TestCase):
    def test_every_refusal_bears_its_name(self):
        names = ["NoName", "NoPlace", "Unlike", "Wide", "Twice", "NoText", "TooLarge", "NoWidth", "NoRow", "NoCount",
                 "Short", "NoChange"]
        self.assertEqual([refusal.__name__ for refusal in REFUSALS], names)
        for name, refusal in zip(names, REFUSALS):
            self.assertIs(getattr(errors, name), refusal)

    def test_view_error_stands_under_value_error(self):
        self.assertEqual(ViewError.__bases__, (ValueError,))

    def test_each_stands_straight_under_view_error(self):
        for refusal in REFUSALS:
            with self.subTest(refusal=refusal.__name__):
                self.assertEqual(refusal.__bases__, (ViewError,))
                self.assertTrue(issubclass(refusal, ValueError))

    def test_none_stands_under_another(self):
        for one in REFUSALS:
            self.assertFalse(issubclass(ViewError, one))
            for other in REFUSALS:
                with self.subTest(one=one.__name__, other=other.__name__):
                    self.assertEqual(issubclass(one, other), one is other)

    def test_each_is_raised_and_taken_as_itself_and_as_those_above(self):
        for refusal in REFUSALS:
            for above in (refusal, ViewError, ValueError):
                with self.subTest(refusal=refusal.__name__, above=above.__name__):
                    with self.assertRaises(above) as taken:
                        raise refusal("why")
                    self.assertIs(taken.exception.__class__, refusal)

    def test_one_is_not_taken_as_another(self):
        for refusal in REFUSALS:
            others = tuple(other for other in REFUSALS if other is not refusal)
            with self.subTest(refusal=refusal.__name__):
                try:
                    raise refusal("why")
                except others:
                    self.fail("taken as another refusal")
                except ViewError:
                    pass


if __name__ == "__main__":
    unittest.main()
