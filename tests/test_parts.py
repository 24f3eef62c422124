"""Points 19 to 21: parts, and those that let through: Sieve, Columns, Pour."""

import copy
import inspect
import unittest

import oracle
from makers import Maker
from viewkeep import parts
from viewkeep.bags import added
from viewkeep.parts import Columns, Part, Pour, Sieve

AT0, AT1 = ("at", 0), ("at", 1)
SAME = ("same", AT0, AT1)


class TestPart(unittest.TestCase):
    def test_a_part_is_made_of_nothing_and_has_the_methods(self):
        part = Part()
        for name in ("needs", "plain", "change", "memory"):
            self.assertTrue(callable(getattr(part, name)))

    def test_all_stand_under_it(self):
        for part in (Sieve(SAME), Columns((AT0,)), Pour()):
            self.assertIsInstance(part, Part)


class TestThrough(unittest.TestCase):
    def test_sieve_by_hand(self):
        part = Sieve(("below", AT0, AT1))
        self.assertEqual(part.change([{(1, 2): 3, (2, 1): 1, (None, 0): 1}]), {(1, 2): 3, (None, 0): 1})
        self.assertEqual(part.change([{(1, 2): -2, (2, 1): 4, (5, 6): 1}]), {(1, 2): -2, (5, 6): 1})
        self.assertEqual(part.change([{}]), {})
        self.assertEqual(part.change([{(2, 1): -5}]), {})

    def test_columns_by_hand(self):
        part = Columns((AT1, ("plus", AT0, AT0)))
        self.assertEqual(part.change([{(1, 2): 3, (None, 1): 1}]), {(2, 2): 3, (1, None): 1})
        self.assertEqual(part.change([{(1, 2): -3, (4, 0): 1}]), {(2, 2): -3, (0, 8): 1})
        self.assertEqual(Columns((AT0,)).change([{(1, 2): 3, (1, 3): -3}]), {})
        self.assertEqual(Columns((AT0,)).change([{(1, 2): 3, (1, 3): -1}]), {(1,): 2})
        self.assertEqual(Columns((AT0,) * 12).change([{(1, 2): 3}]), {(1,) * 12: 3})

    def test_pour_by_hand(self):
        part = Pour()
        self.assertEqual(part.change([{(1,): 2}, {(1,): 3, (2,): 1}]), {(1,): 5, (2,): 1})
        self.assertEqual(part.change([{(1,): -2}, {(1,): 2}]), {})
        self.assertEqual(part.change([{}, {(2,): -1}]), {(2,): -1})
        self.assertEqual(part.change([{(4,): 1}, {}]), {(4,): 1})
        both = {(7,): 1}
        self.assertEqual(part.change([both, both]), {(7,): 2})
        self.assertEqual(both, {(7,): 1})

    def test_they_need_and_remember_nothing(self):
        for part in (Sieve(SAME), Columns((AT0, AT1)), Pour()):
            self.assertEqual((part.needs(), part.memory()), ([], []))
            part.change([{(1, 1): 2}, {(2, 2): 1}][:2 if isinstance(part, Pour) else 1])
            self.assertEqual((part.needs(), part.memory()), ([], []))

    def test_plain_by_hand(self):
        self.assertEqual(Sieve(SAME).plain([{(1, 1): 4, (1, 2): 1, (None, None): 2}]), {(1, 1): 4, (None, None): 2})
        self.assertEqual(Columns((AT1,)).plain([{(1, 1): 4, (2, 1): 1}]), {(1,): 5})
        self.assertEqual(Pour().plain([{(1,): 4}, {(1,): 1, (2,): 2}]), {(1,): 5, (2,): 2})
        self.assertEqual(Pour().plain([{}, {}]), {})

    def test_changes_added_up_against_plain(self):
        maker = Maker(19)
        for number in range(150):
            C, columns = maker.test(2), tuple(maker.column(2) for place in range(maker.chance.randint(1, 3)))
            for part, word, besides, many in [(Sieve(C), "sieve", (C,), 1), (Columns(columns), "cols", (columns,), 1),
                                              (Pour(), "pour", (), 2)]:
                inputs = [{} for place in range(many)]
                output = {}
                for step in range(6):
                    changes = [maker.change(stock, 2) for stock in inputs]
                    output = added(output, part.change(changes))
                    inputs = [oracle.plus(stock, change) for stock, change in zip(inputs, changes)]
                    self.assertEqual(output, oracle.made(word, besides, inputs))
                    self.assertEqual(part.plain(inputs), output)
                    self.assertEqual(part.plain([{} for stock in inputs]), {})
                    self.assertEqual((part.needs(), part.memory()), ([], []))


class TestNothingIsShared(unittest.TestCase):
    def test_what_is_handed_in_stays_and_what_is_given_is_new(self):
        for part, many in [(Sieve(SAME), 1), (Columns((AT0, AT1)), 1), (Pour(), 2)]:
            for method in ("change", "plain"):
                bags = [{(1, 1): 2, (2, 3): 1}, {}][:many]
                kept = copy.deepcopy(bags)
                given = getattr(part, method)(bags)
                expected = dict(given)
                self.assertEqual(bags, kept)
                bags[0].clear()
                self.assertEqual(given, expected)
                given.clear()
                self.assertEqual(getattr(part, method)(kept), expected)
                self.assertEqual(kept[0], {(1, 1): 2, (2, 3): 1})

    def test_lists_are_the_askers_own(self):
        for part in (Sieve(SAME), Columns((AT0,)), Pour()):
            part.needs().append(("rows", 0))
            part.memory().append([])
            self.assertEqual((part.needs(), part.memory()), ([], []))


class TestInterface(unittest.TestCase):
    def test_names_and_arguments(self):
        for name, arguments in {"Part": [], "Sieve": ["C"], "Columns": ["columns"], "Pour": []}.items():
            self.assertEqual(list(inspect.signature(getattr(parts, name)).parameters), arguments)
        for kind in (Part, Sieve, Columns, Pour):
            for name, arguments in {"needs": [], "plain": ["bags"], "change": ["changes"], "memory": []}.items():
                self.assertEqual(list(inspect.signature(getattr(kind, name)).parameters), ["self"] + arguments)


if __name__ == "__main__":
    unittest.main()
