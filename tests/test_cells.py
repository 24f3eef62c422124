"""Points 2, 4, 5 and 8: whole numbers, cells, rows, their order, rows cut to places."""

import inspect
import itertools
import unittest

from viewkeep import cells
from viewkeep.cells import before, cut, is_cell, is_row, is_whole

HUGE = 10 ** 3999
WHOLE = [0, 1, -1, 2, -2, 7, 10 ** 18, -10 ** 30, HUGE, -HUGE]
TRUTHS = [True, False]
OTHERS = ["", "1", "gap", "None", 1.0, 0.0, float("nan"), 1j, b"1", [], [1], {}, {1: 1}, (), (1,), (None,), {1},
          frozenset(), range(2), object(), int, len]


class TestIsWhole(unittest.TestCase):
    def test_ints_are_whole(self):
        for number in WHOLE:
            self.assertIs(is_whole(number), True)

    def test_truths_are_not_whole(self):
        for truth in TRUTHS:
            self.assertIs(is_whole(truth), False)

    def test_the_gap_and_other_kinds_are_not_whole(self):
        for thing in [None] + OTHERS:
            with self.subTest(thing=repr(thing)):
                self.assertIs(is_whole(thing), False)


class TestIsCell(unittest.TestCase):
    def test_whole_numbers_and_the_gap_are_cells(self):
        for cell in WHOLE + [None]:
            self.assertIs(is_cell(cell), True)

    def test_nothing_else_is_a_cell(self):
        for thing in TRUTHS + OTHERS:
            with self.subTest(thing=repr(thing)):
                self.assertIs(is_cell(thing), False)


class TestIsRow(unittest.TestCase):
    def test_tuples_of_cells_are_rows_of_their_width_alone(self):
        for row in [(), (1,), (None,), (0, None), (-3, 4, HUGE), (None,) * 12, tuple(range(13))]:
            for width in range(15):
                with self.subTest(width=width, length=len(row)):
                    self.assertIs(is_row(row, width), width == len(row))

    def test_a_tuple_with_something_that_is_no_cell_is_no_row(self):
        for thing in TRUTHS + OTHERS:
            for row in [(thing,), (thing, 1), (1, thing), (None, thing, 2)]:
                with self.subTest(row=repr(row)):
                    self.assertIs(is_row(row, len(row)), False)

    def test_other_kinds_are_no_rows(self):
        for thing in [None, 0, 1, True, "", "ab", "12", [], [1], [1, 2], {}, {1: 1}, {1: 1, 2: 2}, {1, 2}, range(2),
                      1.0, object(), (number for number in (1, 2)), b"12"]:
            for width in range(4):
                with self.subTest(thing=repr(thing), width=width):
                    self.assertIs(is_row(thing, width), False)

    def test_a_list_in_it_stays_as_it_was(self):
        inner = [1, 2]
        self.assertIs(is_row((inner,), 1), False)
        self.assertEqual(inner, [1, 2])


class TestBefore(unittest.TestCase):
    IN_ORDER = [None, -HUGE, -10, -9, -2, -1, 0, 1, 2, 9, 10, HUGE - 1, HUGE]

    def test_rows_of_one_cell_come_as_their_cells(self):
        for one, first in enumerate(self.IN_ORDER):
            for other, second in enumerate(self.IN_ORDER):
                with self.subTest(one=one, other=other):
                    self.assertIs(before((first,), (second,)), one < other)

    def test_the_gap_comes_before_every_number(self):
        for number in WHOLE:
            self.assertIs(before((None,), (number,)), True)
            self.assertIs(before((number,), (None,)), False)

    def test_a_gap_is_like_a_gap(self):
        self.assertIs(before((None,), (None,)), False)
        self.assertIs(before((None, 1), (None, 2)), True)
        self.assertIs(before((None, 2), (None, 1)), False)
        self.assertIs(before((None, None), (None, 1)), True)

    def test_the_first_unlike_cells_count(self):
        self.assertIs(before((1, 9, 9), (2, 0, 0)), True)
        self.assertIs(before((2, 0, 0), (1, 9, 9)), False)
        self.assertIs(before((1, 2, 9), (1, 3, 0)), True)
        self.assertIs(before((1, None, 9), (1, -5, None)), True)
        self.assertIs(before((-1, 0), (-2, 5)), False)
        self.assertIs(before((0,) * 11 + (1,), (0,) * 11 + (2,)), True)

    def test_no_row_comes_before_one_that_is_alike(self):
        for row in [(), (0,), (None,), (1, None, 3), (HUGE, -HUGE)]:
            self.assertIs(before(row, tuple(list(row))), False)

    def test_rows_of_three_cells_come_in_the_order_that_their_cells_tell(self):
        # The product walks cells in their order, its last place first: so its rows come in theirs.
        rows = list(itertools.product([None, -2, -1, 0, 10], repeat=3))
        for one, first in enumerate(rows):
            for other, second in enumerate(rows):
                self.assertIs(before(first, second), one < other)


class TestCut(unittest.TestCase):
    def test_cells_come_in_the_order_of_places(self):
        row = (10, None, -12, 13)
        self.assertEqual(cut(row, (0, 1, 2, 3)), row)
        self.assertEqual(cut(row, (3, 0)), (13, 10))
        self.assertEqual(cut(row, (2, 1)), (-12, None))
        self.assertEqual(cut(row, (1,)), (None,))

    def test_places_may_come_again(self):
        self.assertEqual(cut((10, 11), (1, 1, 0, 1)), (11, 11, 10, 11))
        self.assertEqual(cut((7,), (0,) * 5), (7,) * 5)

    def test_no_places_make_the_row_without_cells(self):
        self.assertEqual(cut((1, 2), ()), ())
        self.assertEqual(cut((), ()), ())

    def test_what_is_told_is_a_row(self):
        for places in [(), (0,), (1, 0), (1, 1, 1)]:
            self.assertIs(is_row(cut((HUGE, None), places), len(places)), True)

    def test_what_is_handed_in_stays(self):
        row = (1, 2, 3)
        places = (2, 0)
        cut(row, places)
        self.assertEqual((row, places), ((1, 2, 3), (2, 0)))


class TestInterface(unittest.TestCase):
    def test_names_and_arguments(self):
        expected = {"is_whole": ["thing"], "is_cell": ["thing"], "is_row": ["thing", "width"],
                    "before": ["one", "other"], "cut": ["row", "places"]}
        for name, arguments in expected.items():
            with self.subTest(name=name):
                self.assertEqual(list(inspect.signature(getattr(cells, name)).parameters), arguments)


if __name__ == "__main__":
    unittest.main()
