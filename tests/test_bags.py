"""Points 2, 6, 7 and 8: bags and stocks, added, turned, made of pairs, told, cut to places."""

import copy
import inspect
import itertools
import unittest

from viewkeep import bags
from viewkeep.bags import added, bag_of, cut_to, is_stock, told, turned

HUGE = 10 ** 3998
BAGS = [
    {},
    {(): 3},
    {(): -1},
    {(1,): 1},
    {(1,): -1, (2,): 5},
    {(None,): 2, (0,): -2},
    {(1, None): 4, (None, 1): -4, (0, 0): 1},
    {(HUGE,): HUGE, (-HUGE,): -HUGE},
]
PAIRS = [pair for pair in itertools.product(BAGS, BAGS)
         if not pair[0] or not pair[1] or len(next(iter(pair[0]))) == len(next(iter(pair[1])))]


def count_in(bag, row):
    return bag.get(row, 0)


class BagCase(unittest.TestCase):
    def check_bag(self, bag):
        self.assertIs(bag.__class__, dict)
        self.assertLessEqual(len({len(row) for row in bag}), 1)
        for row, count in bag.items():
            self.assertIs(row.__class__, tuple)
            self.assertIs(count.__class__, int)
            self.assertNotEqual(count, 0)


class TestAdded(BagCase):
    def test_counts_are_added_row_by_row(self):
        self.assertEqual(added({(1,): 2, (2,): 3}, {(2,): 4, (3,): -5}), {(1,): 2, (2,): 7, (3,): -5})
        self.assertEqual(added({(1, None): -2}, {(1, None): 1}), {(1, None): -1})

    def test_what_comes_to_nought_is_left_out(self):
        self.assertEqual(added({(1,): 2, (2,): 1}, {(1,): -2}), {(2,): 1})
        self.assertEqual(added({(None,): -7}, {(None,): 7}), {})
        self.assertEqual(added({(): 1}, {(): -1}), {})

    def test_the_bag_without_rows_adds_nothing(self):
        for bag in BAGS:
            self.assertEqual(added(bag, {}), bag)
            self.assertEqual(added({}, bag), bag)

    def test_numbers_of_many_figures(self):
        self.assertEqual(added({(HUGE,): HUGE}, {(HUGE,): 1, (-HUGE,): -HUGE}), {(HUGE,): HUGE + 1, (-HUGE,): -HUGE})
        self.assertEqual(added({(HUGE,): HUGE}, {(HUGE,): -HUGE}), {})

    def test_each_row_has_the_sum_of_its_counts(self):
        for one, other in PAIRS:
            total = added(one, other)
            self.check_bag(total)
            for row in list(one) + list(other) + list(total):
                self.assertEqual(count_in(total, row), count_in(one, row) + count_in(other, row))

    def test_a_bag_is_added_to_itself(self):
        bag = {(1,): 2, (2,): -3}
        self.assertEqual(added(bag, bag), {(1,): 4, (2,): -6})
        self.assertEqual(bag, {(1,): 2, (2,): -3})


class TestTurned(BagCase):
    def test_each_sign_is_turned(self):
        self.assertEqual(turned({(1,): 2, (None,): -3, (HUGE,): -HUGE}), {(1,): -2, (None,): 3, (HUGE,): HUGE})
        self.assertEqual(turned({(): 1}), {(): -1})
        self.assertEqual(turned({}), {})

    def test_a_bag_and_the_turned_one_come_to_nothing(self):
        for bag in BAGS:
            self.check_bag(turned(bag))
            self.assertEqual(added(bag, turned(bag)), {})
            self.assertEqual(turned(turned(bag)), bag)


class TestBagOf(BagCase):
    def test_pairs_become_rows_with_counts(self):
        self.assertEqual(bag_of([((1, 2), 3), ((None, 4), -5)]), {(1, 2): 3, (None, 4): -5})

    def test_no_pairs_make_the_bag_without_rows(self):
        self.assertEqual(bag_of([]), {})

    def test_rows_that_come_again_are_added(self):
        self.assertEqual(bag_of([((1,), 2), ((2,), 1), ((1,), 3), ((1,), -1)]), {(1,): 4, (2,): 1})
        self.assertEqual(bag_of([((), 1), ((), 1), ((), HUGE)]), {(): HUGE + 2})

    def test_counts_of_nought_are_left_out(self):
        self.assertEqual(bag_of([((1,), 0)]), {})
        self.assertEqual(bag_of([((1,), 0), ((2,), 1), ((2,), 0)]), {(2,): 1})

    def test_sums_of_nought_are_left_out(self):
        self.assertEqual(bag_of([((1,), 2), ((2,), 1), ((1,), -2)]), {(2,): 1})
        self.assertEqual(bag_of([((None,), HUGE), ((None,), -HUGE)]), {})

    def test_a_sum_that_passes_nought_on_the_way_stays(self):
        self.assertEqual(bag_of([((1,), 2), ((1,), -2), ((1,), 3)]), {(1,): 3})
        self.assertEqual(bag_of([((1,), 0), ((1,), -3)]), {(1,): -3})

    def test_the_order_of_pairs_does_not_count(self):
        pairs = [((1,), 2), ((1,), -2), ((2,), 1), ((1,), 4), ((2,), 0)]
        for order in itertools.permutations(pairs):
            bag = bag_of(list(order))
            self.check_bag(bag)
            self.assertEqual(bag, {(1,): 4, (2,): 1})


class TestTold(BagCase):
    def test_pairs_come_in_the_order_of_rows(self):
        bag = {(2, 0): 1, (1, 5): -2, (None, 9): 3, (1, None): 4, (-10, 0): 5, (-9, 0): 6, (None, None): 7}
        self.assertEqual(told(bag), [((None, None), 7), ((None, 9), 3), ((-10, 0), 5), ((-9, 0), 6), ((1, None), 4),
                                     ((1, 5), -2), ((2, 0), 1)])

    def test_however_the_rows_came_in(self):
        rows = [(None, 0), (-2, 7), (-1, None), (-1, -1), (10, 0)]
        for order in itertools.permutations(rows):
            self.assertEqual(told({row: len(row) for row in order}), [(row, 2) for row in rows])

    def test_numbers_of_many_figures_come_as_numbers(self):
        self.assertEqual(told({(HUGE,): 1, (9,): -HUGE, (-HUGE,): HUGE, (HUGE - 1,): 2}),
                         [((-HUGE,), HUGE), ((9,), -HUGE), ((HUGE - 1,), 2), ((HUGE,), 1)])

    def test_counts_do_not_set_the_order(self):
        self.assertEqual(told({(2,): -9, (1,): 9}), [((1,), 9), ((2,), -9)])

    def test_no_rows_and_rows_without_cells(self):
        self.assertEqual(told({}), [])
        self.assertEqual(told({(): -2}), [((), -2)])

    def test_a_list_of_tuples_that_makes_the_bag_again(self):
        for bag in BAGS:
            pairs = told(bag)
            self.assertIs(pairs.__class__, list)
            self.assertEqual({pair.__class__ for pair in pairs} - {tuple}, set())
            self.assertEqual(bag_of(pairs), bag)


class TestCutTo(BagCase):
    def test_each_row_is_cut(self):
        bag = {(1, 2, 3): 4, (5, None, 6): -7}
        self.assertEqual(cut_to(bag, (2, 0)), {(3, 1): 4, (6, 5): -7})
        self.assertEqual(cut_to(bag, (1, 1)), {(2, 2): 4, (None, None): -7})
        self.assertEqual(cut_to(bag, (0, 1, 2)), bag)

    def test_rows_that_become_alike_are_added(self):
        bag = {(1, 1): 2, (1, 2): 3, (2, 1): -4, (2, 9): 1, (None, 0): 5}
        self.assertEqual(cut_to(bag, (0,)), {(1,): 5, (2,): -3, (None,): 5})

    def test_what_comes_to_nought_is_left_out(self):
        self.assertEqual(cut_to({(1, 1): 2, (1, 2): -2, (2, 0): 1}, (0,)), {(2,): 1})
        self.assertEqual(cut_to({(1, HUGE): HUGE, (1, 2): -HUGE}, (0, 0)), {})

    def test_a_gap_is_like_a_gap_alone(self):
        self.assertEqual(cut_to({(None, 1): 1, (None, 2): 1, (0, 3): 1}, (0,)), {(None,): 2, (0,): 1})

    def test_cut_to_no_places_all_rows_are_alike(self):
        self.assertEqual(cut_to({(1,): 2, (2,): 3}, ()), {(): 5})
        self.assertEqual(cut_to({(1,): 2, (2,): -2}, ()), {})
        self.assertEqual(cut_to({(): -3}, ()), {(): -3})

    def test_the_bag_without_rows_is_of_every_width(self):
        for places in [(), (0,), (11, 0, 11)]:
            self.assertEqual(cut_to({}, places), {})

    def test_what_is_told_is_a_bag(self):
        bag = {row: count for count, row in enumerate(itertools.product([None, -1, 0], repeat=3), start=-13) if count}
        for places in [(), (0,), (1, 2), (2, 1, 0), (0, 0, 1, 1)]:
            cut_bag = cut_to(bag, places)
            self.check_bag(cut_bag)
            self.assertEqual(sum(cut_bag.values()), sum(bag.values()))


class TestIsStock(BagCase):
    def test_counts_all_above_nought(self):
        for stock in [{}, {(): 1}, {(1,): 1, (None,): HUGE}, {(0, 0): 1}]:
            self.assertIs(is_stock(stock), True)

    def test_a_count_below_nought_makes_it_none(self):
        for bag in [{(): -1}, {(1,): 1, (2,): -1}, {(1,): -1, (2,): 1}, {(1,): 2, (2,): -1, (3,): 4}, {(1,): -HUGE}]:
            self.assertIs(is_stock(bag), False)


class TestNothingIsShared(BagCase):
    """Point 2: what is handed in stays, and what is told is the asker's own."""

    def test_what_is_handed_in_stays(self):
        for one, other in PAIRS:
            kept = copy.deepcopy((one, other))
            orders = (list(one), list(other))
            added(one, other)
            turned(one)
            told(one)
            is_stock(one)
            cut_to(one, ())
            self.assertEqual((one, other), kept)
            self.assertEqual((list(one), list(other)), orders)

    def test_pairs_that_are_handed_in_stay(self):
        pairs = [((2,), 1), ((1,), 0), ((2,), -1), ((0,), 3)]
        kept = list(pairs)
        bag_of(pairs)
        self.assertEqual(pairs, kept)

    def check_own(self, make, *handed):
        """What make tells stays as what was handed in, or what was told beside it, changes, and the other way."""
        expected = copy.deepcopy(make(*handed))
        kept = copy.deepcopy(handed)
        first = make(*handed)
        second = make(*handed)
        first.clear()
        self.assertEqual(second, expected)
        self.assertEqual(handed, kept)
        self.assertEqual(make(*handed), expected)
        for thing in handed:
            if not isinstance(thing, tuple):
                thing.clear()
        self.assertEqual(second, expected)

    def test_added_is_the_askers_own(self):
        for one, other in PAIRS:
            self.check_own(added, dict(one), dict(other))

    def test_turned_told_and_cut_are_the_askers_own(self):
        for bag in BAGS:
            self.check_own(turned, dict(bag))
            self.check_own(told, dict(bag))
            width = len(next(iter(bag), ()))
            self.check_own(cut_to, dict(bag), tuple(range(width)))
            self.check_own(cut_to, dict(bag), ())

    def test_a_bag_made_of_pairs_is_the_askers_own(self):
        for bag in BAGS:
            self.check_own(bag_of, list(bag.items()))

    def test_a_told_list_does_not_change_as_its_bag_does(self):
        bag = {(1,): 1, (2,): 2}
        pairs = told(bag)
        bag[(1,)] = 9
        bag[(0,)] = 4
        self.assertEqual(pairs, [((1,), 1), ((2,), 2)])
        pairs.append("more")
        self.assertEqual(told(bag), [((0,), 4), ((1,), 9), ((2,), 2)])


class TestInterface(unittest.TestCase):
    def test_names_and_arguments(self):
        expected = {"added": ["one", "other"], "turned": ["bag"], "bag_of": ["pairs"], "told": ["bag"],
                    "cut_to": ["bag", "places"], "is_stock": ["bag"]}
        for name, arguments in expected.items():
            with self.subTest(name=name):
                self.assertEqual(list(inspect.signature(getattr(bags, name)).parameters), arguments)


if __name__ == "__main__":
    unittest.main()
