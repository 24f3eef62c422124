"""Point 18: what the plain teller makes of views."""

import copy
import inspect
import unittest

import oracle
from makers import Maker
from viewkeep import plain as plain_file
from viewkeep.bags import is_stock
from viewkeep.plain import plain
from viewkeep.reader import read
from viewkeep.views import look, size

STOCKS = {"a": {(1, 10): 2, (2, 20): 1, (None, 30): 3, (2, None): 1}, "b": {(1, 10): 1, (2, 20): 4, (5, 50): 1},
          "c": {(1,): 1, (3,): 2, (None,): 1}, "e": {}}
WIDTHS = {"a": 2, "b": 2, "c": 1, "e": 2}

TOLD = [
    ("a", STOCKS["a"]),
    ("e", {}),
    ("(sieve a (same #0 2))", {(2, 20): 1, (2, None): 1}),
    ("(sieve a (not (same #1 gap)))", {(1, 10): 2, (2, 20): 1, (None, 30): 3}),
    ("(cols a #1 (plus #0 1))", {(10, 2): 2, (20, 3): 1, (30, None): 3, (None, 3): 1}),
    ("(cols a 7)", {(7,): 7}),
    ("(join a c #0=#0)", {(1, 10, 1): 2, (None, 30, None): 3}),
    ("(join c c)", {(1, 1): 1, (1, 3): 2, (1, None): 1, (3, 1): 2, (3, 3): 4, (3, None): 2, (None, 1): 1,
                    (None, 3): 2, (None, None): 1}),
    ("(join a b #0=#0 #1=#1)", {(1, 10, 1, 10): 2, (2, 20, 2, 20): 4}),
    ("(left a c #0=#0)", {(1, 10, 1): 2, (None, 30, None): 3, (2, 20, None): 1, (2, None, None): 1}),
    ("(left c (join b b #0=#0) #0=#0)", {(1, 1, 10, 1, 10): 1, (3, None, None, None, None): 2,
                                         (None, None, None, None, None): 1}),
    ("(left a e)", {row + (None, None): count for row, count in STOCKS["a"].items()}),
    ("(notin a c #0=#0)", {(2, 20): 1, (2, None): 1}),
    ("(notin a e)", STOCKS["a"]),
    ("(pour a b)", {(1, 10): 3, (2, 20): 5, (None, 30): 3, (2, None): 1, (5, 50): 1}),
    ("(pour a a)", {row: 2 * count for row, count in STOCKS["a"].items()}),
    ("(both a b)", {(1, 10): 1, (2, 20): 1}),
    ("(either a b)", {(1, 10): 2, (2, 20): 4, (None, 30): 3, (2, None): 1, (5, 50): 1}),
    ("(less a b)", {(1, 10): 1, (None, 30): 3, (2, None): 1}),
    ("(once a)", {row: 1 for row in STOCKS["a"]}),
    ("(count a by #0)", {(1, 2): 1, (2, 2): 1, (None, 3): 1}),
    ("(count e by)", {}),
    ("(sum a #1 by #0)", {(1, 20): 1, (2, 20): 1, (None, 90): 1}),
    ("(least a #1 by #0)", {(1, 10): 1, (2, None): 1, (None, 30): 1}),
    ("(most a #1 by)", {(30,): 1}),
    ("(first a 2 by order -1)", {(None, 30): 2}),
    ("(first a 1 by #0 order +1)", {(1, 10): 1, (2, None): 1, (None, 30): 1}),
    # a view within a view, twice
    ("(sum (join (once a) (count b by #0) #0=#0) #3 by)", {(9,): 1}),
    ("(less (pour (once a) (once a)) a)", {(2, 20): 1, (2, None): 1}),
]


def steps(pairs):
    """Two columns: from a place to another."""
    return {"way": {pair: 1 for pair in pairs}}


WAY = [(1, 2), (2, 3), (3, 4), (4, 5), (5, 6), (6, 7), (7, 8), (8, 9)]
REACH = "(rounds r {} way (cols (join r way #1=#0) #0 #3))"


class TestPlain(unittest.TestCase):
    def test_views_worked_out_by_hand(self):
        for text, stock in TOLD:
            with self.subTest(text=text):
                self.assertEqual(plain(read(text), STOCKS, WIDTHS), stock)

    def test_every_word_is_there(self):
        words = {read(text)[0] for text, stock in TOLD}
        self.assertEqual(len(words), 16)

    def test_each_round_goes_on_from_the_one_before(self):
        for k in range(1, 7):
            reached = plain(read(REACH.format(k)), steps(WAY), {"way": 2})
            expected = {(one, other): 1 for one in range(1, 10) for other in range(1, 10) if 0 < other - one <= k + 1}
            self.assertEqual(reached, expected)

    def test_rounds_make_each_row_once(self):
        stocks = {"a": {(1,): 5, (2,): 2}, "b": {(2,): 7, (3,): 1}}
        for k in (1, 6):
            self.assertEqual(plain(("rounds", "x", k, ("name", "a"), ("name", "b")), stocks, {"a": 1, "b": 1}),
                             {(1,): 1, (2,): 1, (3,): 1})
            self.assertEqual(plain(("rounds", "x", k, ("name", "a"), ("name", "x")), stocks, {"a": 1, "b": 1}),
                             {(1,): 1, (2,): 1})

    def test_the_first_round_begins_with_each_row_once(self):
        # the name stands for V with each row once: its rows are counted as 1
        view = read("(rounds x 1 a (count x by))")
        self.assertEqual(plain(view, {"a": {(7,): 5, (8,): 2}}, {"a": 1}), {(7,): 1, (8,): 1, (2,): 1})
        view = read("(rounds x 2 a (count x by))")
        self.assertEqual(plain(view, {"a": {(7,): 5, (8,): 2}}, {"a": 1}), {(7,): 1, (8,): 1, (2,): 1, (3,): 1})

    def test_counting_up_by_rounds(self):
        for k in range(1, 7):
            view = ("rounds", "n", k, ("name", "a"), ("cols", ("name", "n"), (("plus", ("at", 0), ("num", 1)),)))
            self.assertEqual(plain(view, {"a": {(0,): 9}}, {"a": 1}), {(number,): 1 for number in range(k + 1)})

    def test_rounds_within_rounds(self):
        # the inner rounds add 1 twice to what the outer round before made
        inner = "(rounds m 2 n (cols m (plus #0 1)))"
        view = read(f"(rounds n 3 a {inner})")
        self.assertEqual(plain(view, {"a": {(0,): 1}}, {"a": 1}), {(number,): 1 for number in range(7)})
        view = read("(rounds n 2 (rounds n 3 a (cols n (plus #0 1))) (cols n (plus #0 10)))")
        self.assertEqual(plain(view, {"a": {(0,): 1}}, {"a": 1}),
                         {(number + ten,): 1 for number in range(4) for ten in (0, 10, 20)})

    def test_a_left_join_within_rounds_knows_the_width_of_the_name(self):
        view = read("(rounds x 2 c (cols (left a x #0=#0) #2))")
        self.assertEqual(plain(view, STOCKS, WIDTHS), {(1,): 1, (3,): 1, (None,): 1})
        view = read("(rounds x 1 a (cols (left c x #0=#1) #0 #2))")
        # of c's cells only the gap is like a second cell of a, that of (2, gap)
        rows = {row: 1 for row in STOCKS["a"]}
        rows.update({(1, None): 1, (3, None): 1, (None, None): 1})
        self.assertEqual(plain(view, STOCKS, WIDTHS), rows)

    def test_a_name_stands_for_the_rounds_even_where_a_stock_has_it(self):
        view = ("rounds", "x", 1, ("name", "a"), ("name", "x"))
        self.assertEqual(plain(view, {"a": {(1,): 2}, "x": {(5,): 1}}, {"a": 1}), {(1,): 1})

    def test_numbers_and_counts_of_many_figures(self):
        stocks = {"a": {(10 ** 29,): 10 ** 40}}
        self.assertEqual(plain(read("(sum a #0 by)"), stocks, {"a": 1}), {(10 ** 69,): 1})
        self.assertEqual(plain(read("(join a a)"), stocks, {"a": 1}), {(10 ** 29, 10 ** 29): 10 ** 80})

    def test_by_chance_against_the_oracle(self):
        maker = Maker(180)
        widths = {"a": 2, "b": 3, "c": 1}
        tried = 0
        while tried < 500:
            view = maker.view(widths, 3, 4)[0]
            if size(view, {"a": 1, "b": 1, "c": 1}) > 80:
                continue
            tried += 1
            stocks = {name: maker.stock(width, 4) for name, width in widths.items()}
            tables = {name: (stocks[name], widths[name]) for name in widths}
            with self.subTest(view=view, stocks=stocks):
                told = plain(view, stocks, widths)
                stock, width = oracle.told_view(view, tables)
                self.assertEqual(told, stock)
                self.assertEqual(look(view, widths), width)
                self.assertTrue(is_stock(told))
                self.assertEqual({len(row) for row in told} - {width}, set())


class TestNothingIsShared(unittest.TestCase):
    def test_what_is_handed_in_stays_and_what_is_given_is_new(self):
        for text, stock in TOLD + [(REACH.format(2), None)]:
            stocks = copy.deepcopy(dict(STOCKS, **steps(WAY)))
            widths = dict(WIDTHS, way=2)
            kept = copy.deepcopy((stocks, widths))
            view = read(text)
            first = plain(view, stocks, widths)
            expected = dict(first)
            second = plain(view, stocks, widths)
            second.clear()
            self.assertEqual((stocks, widths), kept)
            self.assertEqual(first, expected)
            for rows in stocks.values():
                rows.clear()
            stocks.clear()
            widths.clear()
            self.assertEqual(first, expected)


class TestInterface(unittest.TestCase):
    def test_names_and_arguments(self):
        self.assertEqual(list(inspect.signature(plain_file.plain).parameters), ["V", "stocks", "widths"])


if __name__ == "__main__":
    unittest.main()
