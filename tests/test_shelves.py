"""Points 2, 3 and 20: what parts keep by keys leaves nothing behind and is handed out as a copy."""

import unittest

from viewkeep.shelves import Shelves, put_row


class TestShelves(unittest.TestCase):
    def test_a_shelf_without_rows_is_not_kept(self):
        shelves = Shelves()
        shelves.put((1,), (1, 2), 3)
        shelves.put((1,), (1, 3), 1)
        shelves.put((2,), (2, 2), -1)
        self.assertEqual(shelves.whole(), {(1, 2): 3, (1, 3): 1, (2, 2): -1})
        shelves.put((1,), (1, 2), -3)
        self.assertEqual(shelves.shelf_of, {(1,): {(1, 3): 1}, (2,): {(2, 2): -1}})
        shelves.put((1,), (1, 3), -1)
        shelves.put((2,), (2, 2), 1)
        self.assertEqual((shelves.shelf_of, shelves.whole()), ({}, {}))

    def test_rows_alike_of_several_keys_are_added(self):
        shelves = Shelves()
        shelves.put((1,), (5,), 3)
        shelves.put((2,), (5,), 4)
        self.assertEqual(shelves.whole(), {(5,): 7})

    def test_what_is_given_is_a_copy(self):
        shelves = Shelves()
        shelves.put((1,), (5,), 3)
        shelves.at((1,)).clear()
        shelves.whole().clear()
        shelves.at((9,))[(9,)] = 1
        self.assertEqual((shelves.at((1,)), shelves.at((9,)), shelves.whole()), ({(5,): 3}, {}, {(5,): 3}))

    def test_put_row_leaves_out_what_comes_to_nought(self):
        bag = {}
        for count, expected in [(2, {(1,): 2}), (-2, {}), (-1, {(1,): -1}), (1, {})]:
            put_row(bag, (1,), count)
            self.assertEqual(bag, expected)
        put_row(bag, (1,), 0)
        self.assertEqual(bag, {})


if __name__ == "__main__":
    unittest.main()
