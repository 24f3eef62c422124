"""Points 22 and 23: Left and NotIn."""

import inspect
import unittest

from makers import Maker
from partcase import PartCase
from viewkeep.gaps import Left, NotIn
from viewkeep.keyed import Keyed

ROWS = [("rows", 0), ("rows", 1)]


class TestLeft(PartCase):
    def test_by_hand(self):
        part = Left(((0, 0),), 2)
        self.assertEqual(part.change([{(1,): 2, (2,): 1}, {}]), {(1, None, None): 2, (2, None, None): 1})
        self.assertEqual(part.change([{}, {(1, 5): 3}]), {(1, None, None): -2, (1, 1, 5): 6})
        self.assertEqual(part.change([{}, {(1, 6): 1}]), {(1, 1, 6): 2})
        self.assertEqual(part.change([{(1,): 1}, {(1, 5): -3, (1, 6): -1}]),
                         {(1, 1, 5): -6, (1, 1, 6): -2, (1, None, None): 3})
        self.assertEqual(part.memory(), [[((1,), 3), ((2,), 1)], []])
        self.assertEqual(part.change([{(1,): -3, (2,): -1}, {(9, 9): 1}]), {(1, None, None): -3, (2, None, None): -1})
        self.assertEqual(part.memory(), [[], [((9, 9), 1)]])

    def test_a_row_of_the_other_that_looks_like_gaps(self):
        part = Left((), 1)
        self.assertEqual(part.change([{(1,): 1}, {}]), {(1, None): 1})
        self.assertEqual(part.change([{}, {(None,): 1}]), {})
        self.assertEqual(part.change([{}, {(None,): 1}]), {(1, None): 1})
        self.assertEqual(part.change([{}, {(None,): -2}]), {(1, None): -1})
        self.assertEqual(part.memory(), [[((1,), 1)], []])

    def test_keys(self):
        part = Left(((2, 0), (0, 1)), 2)
        self.assertEqual(part.key_of(0, (1, 2, 3)), (3, 1))
        self.assertEqual(part.key_of(1, (4, 5)), (4, 5))
        self.assertEqual(part.key_of(0, (None, 2, None)), (None, None))
        self.assertEqual(part.kept_row(0, (1, 2, 3)), (1, 2, 3))
        self.assertEqual(part.kept_row(1, (4, None)), (4, None))
        self.assertEqual(Left((), 3).key_of(0, (1,)), ())
        self.assertEqual(Left((), 3).key_of(1, (1, 2, 3)), ())
        self.assertEqual(part.made((3, 1), [{(1, 2, 3): 2}, {(3, 1): 5}]), {(1, 2, 3, 3, 1): 10})
        self.assertEqual(part.made((3, 1), [{(1, 2, 3): 2}, {}]), {(1, 2, 3, None, None): 2})
        self.assertEqual(part.made((3, 1), [{}, {(3, 1): 5}]), {})
        self.assertEqual(part.made((None, 1), [{(1, 7, None): 1}, {(None, 1): 2}]), {(1, 7, None, None, 1): 2})

    def test_by_chance(self):
        maker = Maker(230)
        for number in range(20):
            one, other = maker.chance.choice([(1, 1), (2, 2), (2, 1), (1, 3)])
            pairs = maker.pairs(one, other, 3)
            with self.subTest(pairs=pairs, number=number):
                self.check_part(lambda: Left(pairs, other), "left", (pairs, other), (one, other), ROWS, 100 * number)


class TestNotIn(PartCase):
    def test_by_hand(self):
        part = NotIn(((0, 1),))
        self.assertEqual(part.change([{(1,): 2, (None,): 1}, {}]), {(1,): 2, (None,): 1})
        self.assertEqual(part.change([{}, {(5, 1): 1, (6, 1): 1, (7, 2): 1}]), {(1,): -2})
        self.assertEqual(part.memory(), [[((None,), 1), ((1,), 2)], [((1,), 2), ((2,), 1)]])
        self.assertEqual(part.change([{}, {(5, 1): -1}]), {})
        self.assertEqual(part.change([{(1,): 3}, {(6, 1): -1, (0, None): 1}]), {(1,): 5, (None,): -1})
        self.assertEqual(part.memory(), [[((None,), 1), ((1,), 5)], [((None,), 1), ((2,), 1)]])

    def test_other_rows_alike_when_cut_take_one_anothers_place(self):
        part = NotIn(((0, 0),))
        part.change([{(1,): 1}, {(1, 1): 2}])
        self.assertEqual(part.change([{}, {(1, 1): -2, (1, 2): 2}]), {})
        self.assertEqual(part.memory(), [[((1,), 1)], [((1,), 2)]])

    def test_keys(self):
        part = NotIn(((2, 0), (0, 0)))
        self.assertEqual(part.needs(), [("rows", 0), ("cut", 1, (0, 0))])
        self.assertEqual(part.key_of(0, (1, 2, None)), (None, 1))
        self.assertEqual(part.key_of(1, (4, 5)), (4, 4))
        self.assertEqual(part.kept_row(0, (1, 2, 3)), (1, 2, 3))
        self.assertEqual(part.kept_row(1, (4, 5)), (4, 4))
        self.assertEqual(part.made((3, 1), [{(1, 2, 3): 2}, {}]), {(1, 2, 3): 2})
        self.assertEqual(part.made((1, 1), [{(1, 2, 1): 2}, {(1, 1): 1}]), {})
        self.assertEqual(part.made((1, 1), [{}, {(1, 1): 1}]), {})
        everything = NotIn(())
        self.assertEqual((everything.key_of(0, (1,)), everything.key_of(1, (2,))), ((), ()))
        self.assertEqual((everything.kept_row(0, (1,)), everything.kept_row(1, (2,))), ((1,), ()))
        self.assertEqual(everything.needs(), [("rows", 0), ("cut", 1, ())])

    def test_by_chance(self):
        maker = Maker(231)
        for number in range(20):
            one, other = maker.chance.choice([(1, 1), (2, 2), (2, 1), (1, 3)])
            pairs = maker.pairs(one, other, 3)
            needs = [("rows", 0), ("cut", 1, tuple(q for p, q in pairs))]
            with self.subTest(pairs=pairs, number=number):
                self.check_part(lambda: NotIn(pairs), "notin", (pairs,), (one, other), needs, 100 * number)


class TestInterface(unittest.TestCase):
    def test_names_and_arguments(self):
        self.assertEqual(list(inspect.signature(Left).parameters), ["pairs", "width"])
        self.assertEqual(list(inspect.signature(NotIn).parameters), ["pairs"])
        for kind in (Left, NotIn):
            self.assertTrue(issubclass(kind, Keyed))


if __name__ == "__main__":
    unittest.main()
