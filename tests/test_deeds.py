"""Point 17: the plain functions over bags, by small bags worked out by hand, and by chance against the oracle."""

import copy
import inspect
import unittest

import oracle
from makers import Maker
from viewkeep import deeds
from viewkeep.bags import added
from viewkeep.deeds import (both, counted, either, firsts, joined, least, left_joined, less, most, not_in, once,
                            reckoned, sieved, summed)
from viewkeep.exprs import column, test

HUGE = 10 ** 1500


def at(place):
    return lambda row: row[place]


class TestSievedAndReckoned(unittest.TestCase):
    def test_sieved_keeps_the_rows_of_which_the_test_is_so(self):
        bag = {(1, 2): 3, (2, 1): -4, (None, 0): 5, (0, None): 1}
        self.assertEqual(sieved(bag, lambda row: row[0] == 2), {(2, 1): -4})
        self.assertEqual(sieved(bag, lambda row: True), bag)
        self.assertEqual(sieved(bag, lambda row: False), {})
        self.assertEqual(sieved(bag, test(("below", ("at", 0), ("at", 1)))), {(1, 2): 3, (None, 0): 5})
        self.assertEqual(sieved({}, lambda row: True), {})
        self.assertEqual(sieved({(): -2}, lambda row: True), {(): -2})

    def test_reckoned_tells_the_row_of_columns(self):
        bag = {(1, 2): 3, (None, 5): -1}
        self.assertEqual(reckoned(bag, [at(1), at(0), at(1)]), {(2, 1, 2): 3, (5, None, 5): -1})
        self.assertEqual(reckoned(bag, [column(("plus", ("at", 0), ("at", 1)))]), {(3,): 3, (None,): -1})
        self.assertEqual(reckoned({}, [at(0)]), {})

    def test_reckoned_rows_that_become_alike_are_added(self):
        bag = {(1, 1): 2, (1, 2): 3, (2, 5): -4, (2, 6): 4, (None, 0): -1, (None, 1): -1}
        self.assertEqual(reckoned(bag, [at(0)]), {(1,): 5, (None,): -2})
        self.assertEqual(reckoned(bag, [lambda row: 7]), {(7,): 3})
        self.assertEqual(reckoned({(1,): HUGE, (2,): -HUGE}, [lambda row: None, lambda row: 0]), {})


class TestJoins(unittest.TestCase):
    ONE = {(1, 10): 2, (2, 20): 3, (None, 30): 1}
    OTHER = {(1,): 5, (None,): 7, (3,): 1}

    def test_joined_by_a_pair(self):
        self.assertEqual(joined(self.ONE, self.OTHER, ((0, 0),)), {(1, 10, 1): 10, (None, 30, None): 7})

    def test_joined_by_no_pair_goes_all_with_all(self):
        self.assertEqual(joined({(1,): 2, (2,): -1}, {(8,): 3, (None,): 1}, ()),
                         {(1, 8): 6, (1, None): 2, (2, 8): -3, (2, None): -1})

    def test_joined_by_several_pairs(self):
        one = {(1, 2): 1, (1, 3): 1, (2, 2): 1, (None, 2): 1}
        other = {(2, 1): 2, (3, 1): -3, (2, None): 4, (2, 3): 5}
        self.assertEqual(joined(one, other, ((0, 1), (1, 0))),
                         {(1, 2, 2, 1): 2, (1, 3, 3, 1): -3, (None, 2, 2, None): 4})
        self.assertEqual(joined(one, other, ((0, 0), (1, 0))), {(2, 2, 2, 1): 2, (2, 2, 2, None): 4, (2, 2, 2, 3): 5})
        self.assertEqual(joined(one, other, ((0, 1), (0, 1))), joined(one, other, ((0, 1),)))

    def test_joined_multiplies_counts_of_either_sign(self):
        self.assertEqual(joined({(1,): -2, (2,): 3}, {(1,): -5, (2,): -1}, ((0, 0),)), {(1, 1): 10, (2, 2): -3})
        self.assertEqual(joined({(1,): HUGE}, {(1,): -HUGE}, ((0, 0),)), {(1, 1): -HUGE * HUGE})

    def test_a_gap_goes_with_a_gap_alone(self):
        cells = [None, 0, 1]
        one = {(cell,): 1 for cell in cells}
        self.assertEqual(joined(one, one, ((0, 0),)), {(cell, cell): 1 for cell in cells})
        self.assertEqual(not_in({(None,): 1}, {(0,): 1}, ((0, 0),)), {(None,): 1})
        self.assertEqual(not_in({(None,): 1}, {(None,): 1}, ((0, 0),)), {})

    def test_left_joined(self):
        self.assertEqual(left_joined(self.ONE, self.OTHER, ((0, 0),), 1),
                         {(1, 10, 1): 10, (None, 30, None): 7, (2, 20, None): 3})
        self.assertEqual(left_joined(self.ONE, {}, ((0, 2),), 3),
                         {(1, 10, None, None, None): 2, (2, 20, None, None, None): 3, (None, 30, None, None, None): 1})
        self.assertEqual(left_joined({(1,): 2}, {}, (), 2), {(1, None, None): 2})
        self.assertEqual(left_joined({(1,): 2}, {(5,): 3, (None,): 1}, (), 1), {(1, 5): 6, (1, None): 2})
        self.assertEqual(left_joined({}, self.OTHER, ((0, 0),), 1), {})

    def test_left_joined_with_gaps_in_the_other(self):
        self.assertEqual(left_joined({(1,): 2, (2,): 1}, {(1, None): 4}, ((0, 0),), 2),
                         {(1, 1, None): 8, (2, None, None): 1})
        self.assertEqual(left_joined({(None,): 2, (2,): 1}, {(None, None): 4}, ((0, 0),), 2),
                         {(None, None, None): 8, (2, None, None): 1})

    def test_not_in(self):
        self.assertEqual(not_in(self.ONE, self.OTHER, ((0, 0),)), {(2, 20): 3})
        self.assertEqual(not_in(self.ONE, {}, ((0, 0),)), self.ONE)
        self.assertEqual(not_in(self.ONE, {}, ()), self.ONE)
        self.assertEqual(not_in(self.ONE, {(9,): 1}, ()), {})
        self.assertEqual(not_in({}, self.OTHER, ((0, 0),)), {})
        self.assertEqual(not_in({(1, 2): 4, (2, 2): 1}, {(2, 1): 9}, ((0, 1), (1, 0))), {(2, 2): 1})

    def test_bags_without_rows(self):
        self.assertEqual(joined({}, {}, ()), {})
        self.assertEqual(joined(self.ONE, {}, ((0, 0),)), {})
        self.assertEqual(joined({}, self.OTHER, ((0, 0),)), {})
        self.assertEqual(joined({(): 2}, {(): 3}, ()), {(): 6})


class TestTwoByTwo(unittest.TestCase):
    ONE = {(1,): 5, (2,): 1, (None,): 2, (4,): 3}
    OTHER = {(1,): 2, (2,): 4, (None,): 2, (5,): 6}

    def test_both_takes_the_lesser(self):
        self.assertEqual(both(self.ONE, self.OTHER), {(1,): 2, (2,): 1, (None,): 2})

    def test_either_takes_the_greater(self):
        self.assertEqual(either(self.ONE, self.OTHER), {(1,): 5, (2,): 4, (None,): 2, (4,): 3, (5,): 6})

    def test_less_takes_what_is_above(self):
        self.assertEqual(less(self.ONE, self.OTHER), {(1,): 3, (4,): 3})
        self.assertEqual(less(self.OTHER, self.ONE), {(2,): 3, (5,): 6})

    def test_bags_without_rows(self):
        for stock in [{}, self.ONE, {(): HUGE}]:
            self.assertEqual(both(stock, {}), {})
            self.assertEqual(both({}, stock), {})
            self.assertEqual(either(stock, {}), stock)
            self.assertEqual(either({}, stock), stock)
            self.assertEqual(less(stock, {}), stock)
            self.assertEqual(less({}, stock), {})
            self.assertEqual(both(stock, stock), stock)
            self.assertEqual(either(stock, stock), stock)
            self.assertEqual(less(stock, stock), {})

    def test_once_tells_each_row_with_count_one(self):
        self.assertEqual(once({(1,): 5, (None,): 1, (2,): HUGE}), {(1,): 1, (None,): 1, (2,): 1})
        self.assertEqual(once({}), {})
        self.assertEqual(once({(): 3}), {(): 1})


class TestGroups(unittest.TestCase):
    STOCK = {(1, 5, 7): 2, (1, 6, None): 1, (2, None, None): 4, (None, -3, 1): 1, (None, 4, 1): 3}

    def test_counted(self):
        self.assertEqual(counted(self.STOCK, (0,)), {(1, 3): 1, (2, 4): 1, (None, 4): 1})
        self.assertEqual(counted(self.STOCK, ()), {(11,): 1})
        self.assertEqual(counted(self.STOCK, (2, 0, 2)),
                         {(7, 1, 7, 2): 1, (None, 1, None, 1): 1, (None, 2, None, 4): 1, (1, None, 1, 4): 1})
        self.assertEqual(counted({(): 4}, ()), {(4,): 1})

    def test_summed_passes_gaps_over(self):
        self.assertEqual(summed(self.STOCK, 1, (0,)), {(1, 16): 1, (2, 0): 1, (None, 9): 1})
        self.assertEqual(summed(self.STOCK, 2, (0,)), {(1, 14): 1, (2, 0): 1, (None, 4): 1})
        self.assertEqual(summed(self.STOCK, 1, ()), {(25,): 1})
        self.assertEqual(summed(self.STOCK, 0, (2, 1)),
                         {(7, 5, 2): 1, (None, 6, 1): 1, (None, None, 8): 1, (1, -3, 0): 1, (1, 4, 0): 1})

    def test_a_sum_of_nothing_but_gaps_is_nought(self):
        self.assertEqual(summed({(None,): 3}, 0, ()), {(0,): 1})
        self.assertEqual(summed({(None, 1): 3}, 0, (0,)), {(None, 0): 1})

    def test_a_sum_may_come_to_nought(self):
        self.assertEqual(summed({(5,): 1, (-1,): 5}, 0, ()), {(0,): 1})
        self.assertEqual(summed({(HUGE,): 2, (-HUGE,): 1}, 0, ()), {(HUGE,): 1})

    def test_least_and_most_by_the_order_of_cells(self):
        self.assertEqual(least(self.STOCK, 1, (0,)), {(1, 5): 1, (2, None): 1, (None, -3): 1})
        self.assertEqual(most(self.STOCK, 1, (0,)), {(1, 6): 1, (2, None): 1, (None, 4): 1})
        self.assertEqual(least(self.STOCK, 2, (0,)), {(1, None): 1, (2, None): 1, (None, 1): 1})
        self.assertEqual(most(self.STOCK, 2, (0,)), {(1, 7): 1, (2, None): 1, (None, 1): 1})
        self.assertEqual(least(self.STOCK, 0, ()), {(None,): 1})
        self.assertEqual(most(self.STOCK, 0, ()), {(2,): 1})
        self.assertEqual(least({(-HUGE,): 1, (-1,): 9}, 0, ()), {(-HUGE,): 1})
        self.assertEqual(most({(-HUGE,): 1, (None,): 9}, 0, ()), {(-HUGE,): 1})
        self.assertEqual(most(self.STOCK, 1, (0, 0)), {(1, 1, 6): 1, (2, 2, None): 1, (None, None, 4): 1})

    def test_there_is_no_group_without_rows(self):
        for by in [(), (0,), (1, 0)]:
            self.assertEqual(counted({}, by), {})
            self.assertEqual(summed({}, 0, by), {})
            self.assertEqual(least({}, 0, by), {})
            self.assertEqual(most({}, 0, by), {})
            self.assertEqual(firsts({}, 3, by, ((0, True),)), {})


class TestFirsts(unittest.TestCase):
    STOCK = {(1, 5): 2, (1, None): 1, (1, 9): 3, (2, 4): 5, (None, 0): 1}

    def test_k_of_nought_takes_none(self):
        for by in [(), (0,)]:
            self.assertEqual(firsts(self.STOCK, 0, by, ()), {})

    def test_the_last_row_may_be_taken_less_often(self):
        self.assertEqual(firsts(self.STOCK, 1, (0,), ()), {(1, None): 1, (2, 4): 1, (None, 0): 1})
        self.assertEqual(firsts(self.STOCK, 2, (0,), ()), {(1, None): 1, (1, 5): 1, (2, 4): 2, (None, 0): 1})
        self.assertEqual(firsts(self.STOCK, 4, (0,), ()), {(1, None): 1, (1, 5): 2, (1, 9): 1, (2, 4): 4, (None, 0): 1})
        self.assertEqual(firsts(self.STOCK, 60, (0,), ()), self.STOCK)
        self.assertEqual(firsts({(1,): HUGE}, 60, (), ()), {(1,): 60})

    def test_orders_rising_and_not(self):
        self.assertEqual(firsts(self.STOCK, 3, (), ((1, True),)), {(1, None): 1, (None, 0): 1, (2, 4): 1})
        self.assertEqual(firsts(self.STOCK, 4, (), ((1, False),)), {(1, 9): 3, (1, 5): 1})
        self.assertEqual(firsts(self.STOCK, 11, (), ((1, False),)), {(1, 9): 3, (1, 5): 2, (2, 4): 5, (None, 0): 1})
        self.assertEqual(firsts(self.STOCK, 1, (), ((0, False), (1, True))), {(2, 4): 1})
        self.assertEqual(firsts(self.STOCK, 6, (), ((0, False), (1, False))), {(2, 4): 5, (1, 9): 1})
        self.assertEqual(firsts(self.STOCK, 6, (), ((0, False), (1, True))), {(2, 4): 5, (1, None): 1})
        self.assertEqual(firsts(self.STOCK, 1, (), ((0, True), (1, False))), {(None, 0): 1})

    def test_in_the_turned_order_the_gap_comes_last(self):
        self.assertEqual(firsts({(None,): 1, (-HUGE,): 1, (0,): 1}, 2, (), ((0, False),)), {(0,): 1, (-HUGE,): 1})
        self.assertEqual(firsts({(None,): 1, (-HUGE,): 1, (0,): 1}, 2, (), ((0, True),)), {(None,): 1, (-HUGE,): 1})

    def test_rows_alike_in_the_order_come_by_the_order_of_rows(self):
        stock = {(3, 1, 0): 1, (1, 1, 9): 1, (2, 1, 0): 1, (None, 1, 5): 1}
        self.assertEqual(firsts(stock, 2, (), ((1, True),)), {(None, 1, 5): 1, (1, 1, 9): 1})
        self.assertEqual(firsts(stock, 2, (), ((1, False),)), {(None, 1, 5): 1, (1, 1, 9): 1})
        self.assertEqual(firsts(stock, 1, (), ((2, True),)), {(2, 1, 0): 1})
        self.assertEqual(firsts(stock, 3, (), ((2, False), (1, True))), {(1, 1, 9): 1, (None, 1, 5): 1, (2, 1, 0): 1})

    def test_a_place_told_again_counts_by_its_first_pair(self):
        self.assertEqual(firsts({(1,): 1, (2,): 1}, 1, (), ((0, False), (0, True))), {(2,): 1})


CALLS = {
    "sieved": (lambda one, other: sieved(one, lambda row: row[0] != 1)),
    "reckoned": (lambda one, other: reckoned(one, [at(1), at(0)])),
    "joined": (lambda one, other: joined(one, other, ((0, 0),))),
    "left_joined": (lambda one, other: left_joined(one, other, ((0, 0),), 2)),
    "not_in": (lambda one, other: not_in(one, other, ((0, 1),))),
    "both": both, "either": either, "less": less,
    "once": (lambda one, other: once(one)),
    "counted": (lambda one, other: counted(one, (0,))),
    "summed": (lambda one, other: summed(one, 1, (0,))),
    "least": (lambda one, other: least(one, 1, (0,))),
    "most": (lambda one, other: most(one, 1, (0,))),
    "firsts": (lambda one, other: firsts(one, 9, (0,), ((1, False),))),
}
STOCKS = [{}, {(1, 2): 1}, {(1, 2): 3, (None, 0): 2, (4, None): 1}, {(0, 0): 5, (1, 2): 1}]


class TestNothingIsShared(unittest.TestCase):
    def test_what_is_handed_in_stays_and_what_is_given_is_the_askers_own(self):
        for name, call in CALLS.items():
            for first in STOCKS:
                for second in STOCKS:
                    with self.subTest(name=name, first=first, second=second):
                        self.check(call, dict(first), dict(second))

    def check(self, call, one, other):
        kept = copy.deepcopy((one, other))
        given = call(one, other)
        expected = dict(given)
        self.assertEqual((one, other), kept)
        self.assertEqual((list(one), list(other)), (list(kept[0]), list(kept[1])))
        again = call(one, other)
        again[(9, 9)] = 9
        again.clear()
        self.assertEqual((one, other, given), kept + (expected,))
        one.clear()
        other[(7, 7)] = 1
        self.assertEqual(given, expected)

    def test_lists_of_functions_stay(self):
        columns = [at(0), at(1)]
        kept = list(columns)
        reckoned({(1, 2): 1}, columns)
        self.assertEqual(columns, kept)


class TestByChance(unittest.TestCase):
    def test_against_the_oracle(self):
        maker = Maker(17)
        for number in range(400):
            one, other = maker.stock(3), maker.stock(3)
            pairs, by, order = maker.pairs(3, 3), maker.places(3), maker.order(3)
            k, p = maker.chance.randint(0, 6), maker.chance.randrange(3)
            for told, word, besides, stocks in [
                    (joined(one, other, pairs), "join", (pairs,), [one, other]),
                    (left_joined(one, other, pairs, 3), "left", (pairs, 3), [one, other]),
                    (not_in(one, other, pairs), "notin", (pairs,), [one, other]),
                    (both(one, other), "both", (), [one, other]),
                    (either(one, other), "either", (), [one, other]),
                    (less(one, other), "less", (), [one, other]),
                    (once(one), "once", (), [one]),
                    (counted(one, by), "count", (by,), [one]),
                    (summed(one, p, by), "sum", (p, by), [one]),
                    (least(one, p, by), "least", (p, by), [one]),
                    (most(one, p, by), "most", (p, by), [one]),
                    (firsts(one, k, by, order), "first", (k, by, order), [one])]:
                with self.subTest(word=word, besides=besides, stocks=stocks):
                    self.assertEqual(told, oracle.made(word, besides, stocks))

    def test_words_that_let_through_go_bag_by_bag(self):
        maker = Maker(18)
        for number in range(200):
            one, other, third = maker.bag(2), maker.bag(2), maker.bag(2)
            holds, columns, pairs = test(maker.test(2)), [column(maker.column(2))], maker.pairs(2, 2)
            total = added(one, other)
            self.assertEqual(sieved(total, holds), added(sieved(one, holds), sieved(other, holds)))
            self.assertEqual(reckoned(total, columns), added(reckoned(one, columns), reckoned(other, columns)))
            self.assertEqual(joined(total, third, pairs), added(joined(one, third, pairs), joined(other, third, pairs)))
            self.assertEqual(joined(third, total, pairs), added(joined(third, one, pairs), joined(third, other, pairs)))


class TestInterface(unittest.TestCase):
    def test_names_and_arguments(self):
        expected = {"sieved": "bag test", "reckoned": "bag columns", "joined": "one other pairs",
                    "left_joined": "one other pairs width", "not_in": "one other pairs", "both": "one other",
                    "either": "one other", "less": "one other", "once": "stock", "counted": "stock by",
                    "summed": "stock p by", "least": "stock p by", "most": "stock p by", "firsts": "stock k by order"}
        for name, arguments in expected.items():
            self.assertEqual(list(inspect.signature(getattr(deeds, name)).parameters), arguments.split())


if __name__ == "__main__":
    unittest.main()
