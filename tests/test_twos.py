"""Points 22 and 23: Both, Either and Less, and the base Keyed."""

import inspect
import unittest

from partcase import PartCase
from viewkeep.keyed import Keyed
from viewkeep.parts import Part
from viewkeep.twos import Both, Either, Less

ROWS = [("rows", 0), ("rows", 1)]
KINDS = [(Both, "both"), (Either, "either"), (Less, "less")]


class TestTwos(PartCase):
    def test_by_hand(self):
        steps = [([{(1,): 2}, {}], {}, {(1,): 2}, {(1,): 2}),
                 ([{}, {(1,): 5, (2,): 1}], {(1,): 2}, {(1,): 3, (2,): 1}, {(1,): -2}),
                 ([{(1,): 1}, {(1,): -4}], {(1,): -1}, {(1,): -2}, {(1,): 2}),
                 ([{(None,): 1}, {(None,): 1}], {(None,): 1}, {(None,): 1}, {}),
                 ([{(1,): -3, (None,): -1}, {(1,): -1, (2,): -1, (None,): -1}], {(1,): -1, (None,): -1},
                  {(1,): -3, (2,): -1, (None,): -1}, {(1,): -2})]
        parts = [Both(), Either(), Less()]
        for changes, both, either, less in steps:
            self.assertEqual([part.change(changes) for part in parts], [both, either, less])
        for part in parts:
            self.assertEqual(part.memory(), [[], []])

    def test_the_same_bag_to_both(self):
        bag = {(1,): 2, (None,): 1}
        for kind, expected in [(Both, bag), (Either, bag), (Less, {})]:
            part = kind()
            self.assertEqual(part.change([bag, bag]), expected)
            self.assertEqual(part.memory(), [[((None,), 1), ((1,), 2)]] * 2)
        self.assertEqual(bag, {(1,): 2, (None,): 1})

    def test_keys(self):
        for kind, word in KINDS:
            part = kind()
            for i in (0, 1):
                self.assertEqual(part.key_of(i, (1, None)), (1, None))
                self.assertEqual(part.kept_row(i, (1, None)), (1, None))
        bags = [{(1, None): 3}, {(1, None): 5}]
        self.assertEqual(Both().made((1, None), bags), {(1, None): 3})
        self.assertEqual(Either().made((1, None), bags), {(1, None): 5})
        self.assertEqual(Less().made((1, None), bags), {})
        self.assertEqual(Less().made((1, None), bags[::-1]), {(1, None): 2})
        self.assertEqual(Both().made((1, None), [{}, {(1, None): 5}]), {})
        self.assertEqual(Either().made((1, None), [{}, {(1, None): 5}]), {(1, None): 5})
        self.assertEqual(Less().made((1, None), [{(1, None): 5}, {}]), {(1, None): 5})

    def test_by_chance(self):
        for kind, word in KINDS:
            for width in (1, 2):
                for number in range(5):
                    with self.subTest(word=word, width=width, number=number):
                        self.check_part(kind, word, (), (width, width), ROWS, 100 * number)


class Doubled(Keyed):
    """A word of no view, to ask Keyed's own change and memory: each key's rows, cut to the key, twice."""

    def __init__(self):
        Keyed.__init__(self, 1)
        self.asked = []

    def key_of(self, i, row):
        return row[:1]

    def kept_row(self, i, row):
        return row[:2]

    def made(self, key, bags):
        self.asked.append(key)
        return {row: 2 * count for row, count in bags[0].items()}


class TestKeyed(unittest.TestCase):
    def test_a_change_is_made_of_what_is_kept_by_keys(self):
        part = Doubled()
        self.assertEqual(part.change([{(1, 2, 3): 1, (1, 2, 4): 1, (5, 6, 7): 1}]), {(1, 2): 4, (5, 6): 2})
        self.assertEqual(part.memory(), [[((1, 2), 2), ((5, 6), 1)]])
        self.assertEqual(part.change([{(1, 2, 4): -1}]), {(1, 2): -2})
        self.assertEqual(part.memory(), [[((1, 2), 1), ((5, 6), 1)]])

    def test_only_keys_that_are_touched_are_made(self):
        part = Doubled()
        part.change([{(number, 0, 0): 1 for number in range(50)}])
        part.asked.clear()
        part.change([{(7, 0, 0): 1, (9, 1, 1): 1}])
        self.assertEqual(set(part.asked), {(7,), (9,)})
        part.asked.clear()
        self.assertEqual(part.change([{}]), {})
        self.assertEqual(part.asked, [])

    def test_its_kept_row_is_the_row_itself(self):
        self.assertEqual(Keyed(2).kept_row(1, (1, None)), (1, None))
        self.assertEqual(Keyed(2).memory(), [[], []])
        self.assertEqual(Keyed(1).memory(), [[]])

    def test_the_interface(self):
        self.assertTrue(issubclass(Keyed, Part))
        for kind in (Both, Either, Less):
            self.assertTrue(issubclass(kind, Keyed))
            self.assertEqual(list(inspect.signature(kind).parameters), [])
        self.assertEqual(list(inspect.signature(Keyed).parameters), ["many"])
        for kind in (Keyed, Both):
            for name, arguments in {"key_of": ["i", "row"], "kept_row": ["i", "row"], "made": ["key", "bags"]}.items():
                self.assertEqual(list(inspect.signature(getattr(kind, name)).parameters), ["self"] + arguments)


if __name__ == "__main__":
    unittest.main()
