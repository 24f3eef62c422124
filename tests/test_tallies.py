"""Points 19, 20, 22 and 24: Count and Sum."""

import inspect
import unittest

from makers import Maker
from partcase import PartCase
from viewkeep.keyed import Keyed
from viewkeep.parts import Part
from viewkeep.tallies import Count, Sum

HUGE = 10 ** 1900


class TestCount(PartCase):
    def test_by_hand(self):
        part = Count((1,))
        self.assertEqual(part.change([{(5, 1): 2, (6, 1): 1, (7, None): 1}]), {(1, 3): 1, (None, 1): 1})
        self.assertEqual(part.memory(), [[((None,), 1), ((1,), 3)]])
        self.assertEqual(part.change([{(5, 1): -1, (8, 1): 1}]), {})
        self.assertEqual(part.change([{(5, 1): -1, (7, None): -1, (9, 2): 4}]),
                         {(1, 3): -1, (1, 2): 1, (None, 1): -1, (2, 4): 1})
        self.assertEqual(part.memory(), [[((1,), 2), ((2,), 4)]])
        self.assertEqual(part.change([{(6, 1): -1, (8, 1): -1, (9, 2): -4}]), {(1, 2): -1, (2, 4): -1})
        self.assertEqual(part.memory(), [[]])
        self.assertEqual(part.change([{(5, 1): 1}]), {(1, 1): 1})

    def test_by_none_there_is_one_group_or_none(self):
        part = Count(())
        self.assertEqual(part.change([{}]), {})
        self.assertEqual(part.change([{(1,): 2, (2,): 3}]), {(5,): 1})
        self.assertEqual(part.memory(), [[((), 5)]])
        self.assertEqual(part.change([{(1,): -2, (2,): -3}]), {(5,): -1})
        self.assertEqual(part.memory(), [[]])

    def test_counts_of_many_figures(self):
        part = Count(())
        self.assertEqual(part.change([{(1,): HUGE}]), {(HUGE,): 1})
        self.assertEqual(part.change([{(2,): HUGE, (1,): -1}]), {(HUGE,): -1, (2 * HUGE - 1,): 1})

    def test_keys(self):
        part = Count((2, 0, 2))
        self.assertEqual(part.key_of(0, (1, 2, None)), (None, 1, None))
        self.assertEqual(part.kept_row(0, (1, 2, None)), (None, 1, None))
        self.assertEqual(part.made((None, 1, None), [{(None, 1, None): 7}]), {(None, 1, None, 7): 1})
        self.assertEqual(part.made((None, 1, None), [{}]), {})
        self.assertEqual(Count(()).made((), [{(): 3}]), {(3,): 1})

    def test_by_chance(self):
        maker = Maker(240)
        for number in range(20):
            by = maker.places(3, 4)
            with self.subTest(by=by, number=number):
                self.check_part(lambda: Count(by), "count", (by,), (3,), [("cut", 0, by)], 100 * number)


class TestSum(PartCase):
    def test_by_hand(self):
        part = Sum(0, (1,))
        self.assertEqual(part.change([{(5, 1): 2, (-3, 1): 1, (None, 2): 1}]), {(1, 7): 1, (2, 0): 1})
        self.assertEqual(part.memory(), [[((1,), 3), ((2,), 1)], [((1,), 7), ((2,), 0)]])
        self.assertEqual(part.change([{(None, 1): 4, (None, 2): 2}]), {})
        self.assertEqual(part.memory(), [[((1,), 7), ((2,), 3)], [((1,), 7), ((2,), 0)]])
        self.assertEqual(part.change([{(5, 1): -2, (3, 1): 1}]), {(1, 7): -1, (1, 0): 1})
        self.assertEqual(part.memory(), [[((1,), 6), ((2,), 3)], [((1,), 0), ((2,), 0)]])
        self.assertEqual(part.change([{(3, 1): -1, (-3, 1): -1, (None, 1): -4}]), {(1, 0): -1})
        self.assertEqual(part.memory(), [[((2,), 3)], [((2,), 0)]])

    def test_a_sum_that_comes_to_nought_with_rows_there_and_goes_on(self):
        part = Sum(0, ())
        self.assertEqual(part.change([{(4,): 1}]), {(4,): 1})
        self.assertEqual(part.change([{(-4,): 1}]), {(4,): -1, (0,): 1})
        self.assertEqual(part.memory(), [[((), 2)], [((), 0)]])
        self.assertEqual(part.change([{(4,): -1, (-4,): -1}]), {(0,): -1})
        self.assertEqual(part.memory(), [[], []])
        self.assertEqual(part.change([{(0,): 3}]), {(0,): 1})
        self.assertEqual(part.memory(), [[((), 3)], [((), 0)]])

    def test_rows_that_take_one_anothers_place(self):
        part = Sum(1, (0,))
        part.change([{(1, 5): 1, (1, 6): 1}])
        self.assertEqual(part.change([{(1, 5): -1, (1, 6): -1, (1, 11): 1}]), {})
        self.assertEqual(part.memory(), [[((1,), 1)], [((1,), 11)]])

    def test_counts_and_numbers_of_many_figures(self):
        part = Sum(0, ())
        self.assertEqual(part.change([{(HUGE,): HUGE}]), {(HUGE * HUGE,): 1})
        self.assertEqual(part.change([{(-HUGE,): HUGE}]), {(HUGE * HUGE,): -1, (0,): 1})

    def test_a_sum_over_a_place_of_its_group(self):
        part = Sum(0, (0, 0))
        self.assertEqual(part.change([{(2,): 3, (None,): 2}]), {(2, 2, 6): 1, (None, None, 0): 1})
        self.assertEqual(part.memory(), [[((None, None), 2), ((2, 2), 3)], [((None, None), 0), ((2, 2), 6)]])

    def test_by_chance(self):
        maker = Maker(241)
        for number in range(20):
            p, by = maker.chance.randrange(3), maker.places(3, 4)
            needs = [("cut", 0, by), ("sums", 0, by, p)]
            with self.subTest(p=p, by=by, number=number):
                self.check_part(lambda: Sum(p, by), "sum", (p, by), (3,), needs, 100 * number)


class TestInterface(unittest.TestCase):
    def test_names_and_arguments(self):
        self.assertEqual(list(inspect.signature(Count).parameters), ["by"])
        self.assertEqual(list(inspect.signature(Sum).parameters), ["p", "by"])
        self.assertTrue(issubclass(Count, Keyed))
        self.assertTrue(issubclass(Sum, Part))


if __name__ == "__main__":
    unittest.main()
