"""Points 9 and 10: what columns and tests tell of a row."""

import inspect
import itertools
import unittest

from makers import Maker
from viewkeep import exprs
from viewkeep.exprs import column, test

BIG = 10 ** 30 - 1
AT0, AT1, AT2 = ("at", 0), ("at", 1), ("at", 2)
GAP = ("gap",)
NUMBERS = [-BIG, -10, -7, -1, 0, 1, 3, 7, 10, BIG]
CELLS = [None] + NUMBERS
YES = ("same", ("num", 1), ("num", 1))
NO = ("same", ("num", 1), ("num", 2))


class TestColumns(unittest.TestCase):
    def check(self, E, row, cell):
        with self.subTest(E=E, row=row):
            told = column(E)(row)
            self.assertEqual(told, cell)
            self.assertIs(told.__class__, cell.__class__)

    def test_at_tells_the_cell_at_its_place(self):
        row = (5, None, -BIG, 0, 1, 2, 3, 4, 6, 7, 8, BIG)
        for place in range(12):
            self.check(("at", place), row, row[place])

    def test_num_tells_its_number_of_every_row(self):
        for number in NUMBERS:
            for row in [(), (None,), (4, 5)]:
                self.check(("num", number), row, number)

    def test_gap_tells_the_gap_of_every_row(self):
        for row in [(), (None,), (4, 5)]:
            self.check(GAP, row, None)

    def test_plus_and_minus(self):
        for one, other in itertools.product(NUMBERS, NUMBERS):
            self.check(("plus", AT0, AT1), (one, other), one + other)
            self.check(("minus", AT0, AT1), (one, other), one - other)
        self.check(("plus", ("num", BIG), ("num", BIG)), (), 2 * BIG)
        self.check(("minus", ("num", 3), ("num", 5)), (), -2)

    def test_times(self):
        for number in [-999999999, -1, 0, 1, 2, 999999999]:
            for cell in NUMBERS:
                self.check(("times", number, AT0), (cell,), number * cell)

    def test_part_and_rest_worked_out_by_hand(self):
        for cell, number, part, rest in [(7, 3, 2, 1), (-7, 3, -3, 2), (6, 3, 2, 0), (-6, 3, -2, 0), (0, 5, 0, 0),
                                         (1, 5, 0, 1), (-1, 5, -1, 4), (4, 1, 4, 0), (-4, 1, -4, 0),
                                         (-1, 999999999, -1, 999999998), (BIG, 10, 10 ** 29 - 1, 9),
                                         (-BIG, 10, -10 ** 29, 1)]:
            self.check(("part", number, AT0), (cell,), part)
            self.check(("rest", number, AT0), (cell,), rest)

    def test_part_is_the_greatest_whose_fold_is_not_above(self):
        for number in [1, 2, 3, 10, 999999999]:
            for cell in NUMBERS:
                part = column(("part", number, AT0))((cell,))
                rest = column(("rest", number, AT0))((cell,))
                self.assertTrue(number * part <= cell < number * (part + 1))
                self.assertTrue(0 <= rest < number)
                self.assertEqual(number * part + rest, cell)

    def test_a_gap_in_each_place_makes_a_gap(self):
        for word in ("plus", "minus"):
            self.check((word, AT0, AT1), (None, 1), None)
            self.check((word, AT0, AT1), (1, None), None)
            self.check((word, AT0, AT1), (None, None), None)
            self.check((word, GAP, ("num", 0)), (), None)
            self.check((word, ("num", 0), GAP), (), None)
        for word in ("times", "part", "rest"):
            for number in (1, 7, 999999999):
                self.check((word, number, AT0), (None,), None)
                self.check((word, number, GAP), (0,), None)
        self.check(("times", 0, AT0), (None,), None)
        self.check(("minus", ("plus", AT0, AT1), AT2), (1, None, 3), None)

    def test_nought_is_no_gap(self):
        self.check(("plus", AT0, AT1), (0, 0), 0)
        self.check(("times", 0, AT0), (0,), 0)
        self.check(("part", 2, AT0), (0,), 0)

    def test_if_tells_the_one_or_the_other(self):
        choice = ("if", ("below", AT0, ("num", 5)), AT1, AT2)
        self.check(choice, (4, 10, 20), 10)
        self.check(choice, (5, 10, 20), 20)
        self.check(choice, (None, 10, 20), 10)
        self.check(choice, (4, None, 20), None)
        self.check(choice, (5, None, 20), 20)
        self.check(choice, (5, 10, None), None)
        self.check(("plus", ("num", 1), ("if", NO, GAP, AT0)), (8,), 9)

    def test_columns_within_columns(self):
        E = ("rest", 10, ("minus", ("times", -3, ("plus", AT0, ("num", 4))), ("part", 2, AT1)))
        self.check(E, (2, 9), (-18 - 4) % 10)
        self.check(E, (None, 9), None)

    def test_one_function_asked_for_several_rows_and_again(self):
        tell = column(("if", ("same", AT0, AT1), ("plus", AT0, ("num", 1)), ("part", 2, AT1)))
        rows = [(1, 1), (None, None), (3, -5), (1, 1), (0, None), (3, -5)]
        self.assertEqual([tell(row) for row in rows], [2, None, -3, 2, None, -3])
        self.assertEqual([tell(row) for row in rows], [2, None, -3, 2, None, -3])

    def test_functions_do_not_mix(self):
        one = column(("plus", AT0, ("num", 1)))
        other = column(("plus", AT0, ("num", 2)))
        self.assertEqual([one((1,)), other((1,)), one((5,)), other((5,))], [2, 3, 6, 7])

    def test_thirty_columns_within_one_another(self):
        E = AT0
        for number in range(30):
            E = ("plus", E, ("num", 1))
        self.check(E, (5,), 35)


class TestTests(unittest.TestCase):
    def check(self, C, row, truth):
        with self.subTest(C=C, row=row):
            self.assertIs(test(C)(row), truth)

    def test_below_goes_by_the_order_of_cells(self):
        for one, first in enumerate(CELLS):
            for other, second in enumerate(CELLS):
                self.check(("below", AT0, AT1), (first, second), one < other)

    def test_same_is_so_of_cells_alike(self):
        for one, first in enumerate(CELLS):
            for other, second in enumerate(CELLS):
                self.check(("same", AT0, AT1), (first, second), one == other)

    def test_a_gap_is_like_a_gap_alone(self):
        self.check(("same", GAP, GAP), (), True)
        self.check(("same", GAP, ("num", 0)), (), False)
        self.check(("below", GAP, GAP), (), False)
        self.check(("below", GAP, ("num", -BIG)), (), True)
        self.check(("below", ("num", -BIG), GAP), (), False)
        self.check(("same", ("plus", AT0, AT1), GAP), (1, None), True)

    def test_not_and_or(self):
        for one, other in itertools.product([True, False], repeat=2):
            first, second = (YES if one else NO), (YES if other else NO)
            self.check(("and", first, second), (), one and other)
            self.check(("or", first, second), (), one or other)
            self.check(("not", first), (), not one)
            self.check(("not", ("not", first)), (), one)

    def test_tests_within_tests(self):
        C = ("or", ("and", ("below", AT0, AT1), ("not", ("same", AT1, GAP))), ("same", AT0, ("num", 9)))
        for row, truth in [((1, 2), True), ((2, 1), False), ((None, None), False), ((9, 1), True), ((9, None), True),
                           ((None, 0), True)]:
            self.check(C, row, truth)

    def test_one_function_asked_for_several_rows_and_again(self):
        tell = test(("below", AT0, ("times", -1, AT1)))
        rows = [(1, 2), (-3, 2), (None, None), (None, 1), (-3, 2)]
        self.assertEqual([tell(row) for row in rows], [False, True, False, True, True])
        self.assertEqual([tell(row) for row in rows], [False, True, False, True, True])


def plain_cell(E, row):
    """The same, worked out anew for each row, by the words of points 9 and 10."""
    word = E[0]
    if word == "at":
        return row[E[1]]
    if word == "num":
        return E[1]
    if word == "gap":
        return None
    if word == "if":
        return plain_cell(E[2], row) if plain_truth(E[1], row) else plain_cell(E[3], row)
    cells = [plain_cell(part, row) for part in E[1:] if isinstance(part, tuple)]
    if None in cells:
        return None
    if word in ("plus", "minus"):
        return cells[0] + cells[1] if word == "plus" else cells[0] - cells[1]
    if word == "times":
        return E[1] * cells[0]
    return divmod(cells[0], E[1])[0 if word == "part" else 1]


def plain_truth(C, row):
    word = C[0]
    if word == "not":
        return not plain_truth(C[1], row)
    if word in ("and", "or"):
        truths = [plain_truth(part, row) for part in C[1:]]
        return all(truths) if word == "and" else any(truths)
    one, other = plain_cell(C[1], row), plain_cell(C[2], row)
    if word == "same":
        return one == other
    if one is None or other is None:
        return one is None and other is not None
    return one < other


class TestByChance(unittest.TestCase):
    def test_columns_and_tests_of_many_rows(self):
        maker = Maker(9)
        for number in range(300):
            E, C = maker.column(3, 4), maker.test(3, 4)
            tell, holds = column(E), test(C)
            for row in [maker.row(3) for row in range(6)]:
                with self.subTest(E=E, C=C, row=row):
                    self.assertEqual(tell(row), plain_cell(E, row))
                    self.assertIs(holds(row), plain_truth(C, row))


class TestInterface(unittest.TestCase):
    def test_names_and_arguments(self):
        for name, arguments in {"column": ["E"], "test": ["C"]}.items():
            self.assertEqual(list(inspect.signature(getattr(exprs, name)).parameters), arguments)

    def test_what_is_handed_in_stays(self):
        E = ("if", ("below", AT0, GAP), ("plus", AT0, AT1), ("times", 2, AT1))
        row = (1, None)
        column(E)(row)
        test(E[1])(row)
        self.assertEqual(E, ("if", ("below", AT0, GAP), ("plus", AT0, AT1), ("times", 2, AT1)))
        self.assertEqual(row, (1, None))


if __name__ == "__main__":
    unittest.main()
