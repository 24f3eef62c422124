"""Points 19, 20, 22 and 24: Least and Most."""

import inspect
import unittest

from makers import Maker
from partcase import PartCase
from viewkeep.ends import Least, Most
from viewkeep.keyed import Keyed

KINDS = [(Least, "least"), (Most, "most")]


class TestEnds(PartCase):
    def test_the_end_goes_and_the_next_one_takes_its_place(self):
        least, most = Least(0, ()), Most(0, ())
        for change, first, last in [
                ({(5,): 1, (7,): 2}, {(5,): 1}, {(7,): 1}),
                ({(7,): -1}, {}, {}),
                ({(7,): -1}, {}, {(7,): -1, (5,): 1}),
                ({(3,): 1, (9,): 1}, {(5,): -1, (3,): 1}, {(5,): -1, (9,): 1}),
                ({(3,): -1, (9,): -1}, {(3,): -1, (5,): 1}, {(9,): -1, (5,): 1}),
                ({(5,): 4}, {}, {}),
                ({(5,): -5}, {(5,): -1}, {(5,): -1}),
                ({(None,): 1}, {(None,): 1}, {(None,): 1}),
                ({(-4,): 1}, {}, {(None,): -1, (-4,): 1}),
                ({(None,): -1}, {(None,): -1, (-4,): 1}, {})]:
            self.assertEqual((least.change([change]), most.change([change])), (first, last))
        self.assertEqual(least.memory(), [[((-4,), 1)]])
        self.assertEqual(most.memory(), [[((-4,), 1)]])

    def test_groups_come_go_and_come_again(self):
        part = Least(2, (1,))
        self.assertEqual(part.change([{(0, 1, 8): 1, (0, 1, 6): 1, (0, 2, None): 2}]), {(1, 6): 1, (2, None): 1})
        self.assertEqual(part.memory(), [[((1, 6), 1), ((1, 8), 1), ((2, None), 2)]])
        self.assertEqual(part.change([{(0, 1, 8): -1, (0, 1, 6): -1, (9, 2, None): 1}]), {(1, 6): -1})
        self.assertEqual(part.memory(), [[((2, None), 3)]])
        self.assertEqual(part.change([{(0, 1, 8): 1}]), {(1, 8): 1})

    def test_numbers_of_many_figures(self):
        huge = 10 ** 3000
        least, most = Least(0, ()), Most(0, ())
        change = [{(huge,): 1, (-huge,): huge, (0,): 1, (None,): 1}]
        self.assertEqual((least.change(change), most.change(change)), ({(None,): 1}, {(huge,): 1}))
        self.assertEqual(least.change([{(None,): -1}]), {(None,): -1, (-huge,): 1})

    def test_keys(self):
        for kind, word in KINDS:
            part = kind(1, (2, 0))
            self.assertEqual(part.needs(), [("cut", 0, (2, 0, 1))])
            self.assertEqual(part.key_of(0, (1, 2, None)), (None, 1))
            self.assertEqual(part.kept_row(0, (1, 2, None)), (None, 1, 2))
            self.assertEqual(part.made((None, 1), [{}]), {})
            self.assertEqual(kind(0, ()).key_of(0, (7,)), ())
            self.assertEqual(kind(0, ()).kept_row(0, (7,)), (7,))
        kept = {(3, 4, 5): 2, (3, 4, None): 1, (3, 4, -5): 1}
        self.assertEqual(Least(1, (2, 0)).made((3, 4), [kept]), {(3, 4, None): 1})
        self.assertEqual(Most(1, (2, 0)).made((3, 4), [kept]), {(3, 4, 5): 1})
        self.assertEqual(kept, {(3, 4, 5): 2, (3, 4, None): 1, (3, 4, -5): 1})

    def test_by_chance(self):
        maker = Maker(242)
        for kind, word in KINDS:
            for number in range(15):
                p, by = maker.chance.randrange(3), maker.places(3, 4)
                needs = [("cut", 0, by + (p,))]
                with self.subTest(word=word, p=p, by=by, number=number):
                    self.check_part(lambda: kind(p, by), word, (p, by), (3,), needs, 100 * number)

    def test_the_interface(self):
        for kind, word in KINDS:
            self.assertEqual(list(inspect.signature(kind).parameters), ["p", "by"])
            self.assertTrue(issubclass(kind, Keyed))


if __name__ == "__main__":
    unittest.main()
