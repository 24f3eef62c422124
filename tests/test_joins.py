"""Points 19 to 21: Join."""

import inspect
import unittest

from makers import Maker
from partcase import PartCase
from viewkeep.joins import Join
from viewkeep.parts import Part

ROWS = [("rows", 0), ("rows", 1)]


class TestJoin(PartCase):
    def test_by_hand(self):
        part = Join(((0, 1),))
        self.assertEqual(part.memory(), [[], []])
        self.assertEqual(part.change([{(1,): 2, (None,): 1}, {}]), {})
        self.assertEqual(part.change([{}, {(7, 1): 3, (8, 2): 1, (9, None): 1}]), {(1, 7, 1): 6, (None, 9, None): 1})
        self.assertEqual(part.memory(), [[((None,), 1), ((1,), 2)], [((7, 1), 3), ((8, 2), 1), ((9, None), 1)]])
        self.assertEqual(part.change([{(1,): -1, (2,): 4}, {}]), {(1, 7, 1): -3, (2, 8, 2): 4})
        self.assertEqual(part.change([{}, {(7, 1): -3}]), {(1, 7, 1): -3})
        self.assertEqual(part.memory(), [[((None,), 1), ((1,), 1), ((2,), 4)], [((8, 2), 1), ((9, None), 1)]])

    def test_both_inputs_at_once(self):
        part = Join(((0, 0),))
        self.assertEqual(part.change([{(1,): 2}, {(1,): 3}]), {(1, 1): 6})
        # 2 and 3 become 5 and 1
        self.assertEqual(part.change([{(1,): 3}, {(1,): -2}]), {(1, 1): -1})
        self.assertEqual(part.change([{(1,): -5}, {(1,): 4}]), {(1, 1): -5})
        self.assertEqual(part.memory(), [[], [((1,), 5)]])

    def test_the_same_bag_to_both(self):
        part = Join(())
        bag = {(1,): 1, (2,): 1}
        self.assertEqual(part.change([bag, bag]), {(1, 1): 1, (1, 2): 1, (2, 1): 1, (2, 2): 1})
        bag = {(1,): -1}
        self.assertEqual(part.change([bag, bag]), {(1, 1): -1, (1, 2): -1, (2, 1): -1})
        self.assertEqual(bag, {(1,): -1})

    def test_counts_of_many_figures(self):
        part = Join(((0, 0),))
        huge = 10 ** 900
        part.change([{(1,): huge}, {(1,): huge}])
        self.assertEqual(part.change([{(1,): 1}, {(1,): -1}]), {(1, 1): (huge + 1) * (huge - 1) - huge * huge})

    def test_by_chance(self):
        maker = Maker(210)
        for number in range(25):
            one, other = maker.chance.choice([(1, 1), (2, 2), (2, 1), (1, 3)])
            pairs = maker.pairs(one, other, 3)
            with self.subTest(pairs=pairs, number=number):
                self.check_part(lambda: Join(pairs), "join", (pairs,), (one, other), ROWS, 100 * number)

    def test_the_interface(self):
        self.assertEqual(list(inspect.signature(Join).parameters), ["pairs"])
        self.assertTrue(issubclass(Join, Part))


if __name__ == "__main__":
    unittest.main()
