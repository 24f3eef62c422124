"""Points 19, 20, 22 and 25: Once and First."""

import inspect
import unittest

from makers import Maker
from partcase import PartCase
from viewkeep.firsts import First, Once
from viewkeep.keyed import Keyed

ROWS = [("rows", 0)]


class TestOnce(PartCase):
    def test_by_hand(self):
        part = Once()
        self.assertEqual(part.change([{(1,): 3, (None,): 1}]), {(1,): 1, (None,): 1})
        self.assertEqual(part.change([{(1,): -2, (2,): 1}]), {(2,): 1})
        self.assertEqual(part.change([{(1,): -1, (None,): 5}]), {(1,): -1})
        self.assertEqual(part.memory(), [[((None,), 6), ((2,), 1)]])
        self.assertEqual(part.change([{(1,): 1, (2,): -1}]), {(1,): 1, (2,): -1})

    def test_keys(self):
        part = Once()
        self.assertEqual((part.key_of(0, (1, None)), part.kept_row(0, (1, None))), ((1, None), (1, None)))
        self.assertEqual(part.made((1,), [{(1,): 9}]), {(1,): 1})
        self.assertEqual(part.made((1,), [{}]), {})

    def test_by_chance(self):
        for width in (1, 2):
            for number in range(10):
                with self.subTest(width=width, number=number):
                    self.check_part(Once, "once", (), (width,), ROWS, 100 * number)


class TestFirst(PartCase):
    def test_the_last_row_is_taken_less_often(self):
        part = First(3, (), ((0, True),))
        self.assertEqual(part.change([{(5,): 2, (7,): 2}]), {(5,): 2, (7,): 1})
        self.assertEqual(part.change([{(6,): 1}]), {(7,): -1, (6,): 1})
        self.assertEqual(part.change([{(5,): -2}]), {(5,): -2, (7,): 2})
        self.assertEqual(part.change([{(7,): 9}]), {})
        self.assertEqual(part.change([{(None,): 1}]), {(None,): 1, (7,): -1})
        self.assertEqual(part.memory(), [[((None,), 1), ((6,), 1), ((7,), 11)]])
        self.assertEqual(part.change([{(None,): -1, (6,): -1, (7,): -11}]), {(None,): -1, (6,): -1, (7,): -1})
        self.assertEqual(part.memory(), [[]])

    def test_k_of_nought_takes_none_and_remembers_all(self):
        part = First(0, (0,), ((0, True),))
        self.assertEqual(part.change([{(5,): 2}]), {})
        self.assertEqual(part.memory(), [[((5,), 2)]])
        self.assertEqual(part.change([{(5,): -1}]), {})

    def test_k_of_one_by_groups_in_the_turned_order(self):
        part = First(1, (0,), ((1, False),))
        self.assertEqual(part.change([{(1, 5): 1, (1, 6): 1, (2, None): 1}]), {(1, 6): 1, (2, None): 1})
        self.assertEqual(part.change([{(2, -9): 1, (1, 6): -1}]), {(1, 6): -1, (1, 5): 1, (2, None): -1, (2, -9): 1})
        self.assertEqual(part.change([{(1, None): 3}]), {})
        self.assertEqual(part.change([{(1, 5): -1}]), {(1, 5): -1, (1, None): 1})

    def test_rows_alike_in_the_order_come_by_the_order_of_rows(self):
        for rising in (True, False):
            part = First(1, (), ((1, rising),))
            self.assertEqual(part.change([{(3, 0): 1, (2, 0): 1}]), {(2, 0): 1})
            self.assertEqual(part.change([{(None, 0): 1}]), {(None, 0): 1, (2, 0): -1})
            self.assertEqual(part.change([{(None, 0): -1, (2, 0): -1}]), {(None, 0): -1, (3, 0): 1})

    def test_counts_of_many_figures(self):
        part = First(60, (), ())
        huge = 10 ** 3900
        self.assertEqual(part.change([{(1,): huge}]), {(1,): 60})
        self.assertEqual(part.change([{(1,): 10 - huge, (2,): huge}]), {(1,): -50, (2,): 50})

    def test_keys(self):
        part = First(2, (1, 1), ((0, False),))
        self.assertEqual((part.key_of(0, (1, None)), part.kept_row(0, (1, None))), ((None, None), (1, None)))
        self.assertEqual(part.made((5, 5), [{(1, 5): 1, (2, 5): 1, (3, 5): 1}]), {(3, 5): 1, (2, 5): 1})
        self.assertEqual(part.made((5, 5), [{}]), {})
        self.assertEqual(First(2, (), ()).key_of(0, (1,)), ())

    def test_by_chance(self):
        maker = Maker(250)
        for number in range(30):
            besides = (maker.chance.choice([0, 1, 1, 2, 3, 5, 60]), maker.places(2, 3), maker.order(2, 3))
            with self.subTest(besides=besides, number=number):
                self.check_part(lambda: First(*besides), "first", besides, (2,), ROWS, 100 * number)


class TestInterface(unittest.TestCase):
    def test_names_and_arguments(self):
        self.assertEqual(list(inspect.signature(Once).parameters), [])
        self.assertEqual(list(inspect.signature(First).parameters), ["k", "by", "order"])
        for kind in (Once, First):
            self.assertTrue(issubclass(kind, Keyed))


if __name__ == "__main__":
    unittest.main()
