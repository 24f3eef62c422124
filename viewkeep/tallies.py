"""The parts for count and sum."""

from viewkeep.bags import bag_of, told
from viewkeep.cells import cut, row_key
from viewkeep.deeds import counted, summed
from viewkeep.keyed import Keyed
from viewkeep.parts import Part
from viewkeep.shelves import put_row


class Count(Keyed):
    def __init__(self, by):
        Keyed.__init__(self, 1)
        self.by = by

    def needs(self):
        return [("cut", 0, self.by)]

    def plain(self, bags):
        return counted(bags[0], self.by)

    def key_of(self, i, row):
        return cut(row, self.by)

    def kept_row(self, i, row):
        return cut(row, self.by)

    def made(self, key, bags):
        return bag_of([(row + (count,), 1) for row, count in bags[0].items()])


class Sum(Part):
    def __init__(self, p, by):
        self.p = p
        self.by = by
        self.counts = {}
        self.sums = {}

    def needs(self):
        return [("cut", 0, self.by), ("sums", 0, self.by, self.p)]

    def memory(self):
        # Among the sums stand those alone that are not 0; a group's being there is told by its count.
        keys = sorted(self.counts, key=row_key)
        return [told(self.counts), [(key, self.sums.get(key, 0)) for key in keys]]

    def plain(self, bags):
        return summed(bags[0], self.p, self.by)

    def change(self, changes):
        touched = list(dict([(cut(row, self.by), True) for row in changes[0]]))
        pairs = [(row, -1) for row in self.rows_made(touched)]
        for row, count in changes[0].items():
            self.put(cut(row, self.by), row[self.p], count)
        return bag_of(pairs + [(row, 1) for row in self.rows_made(touched)])

    def rows_made(self, keys):
        return [key + (self.sums.get(key, 0),) for key in keys if key in self.counts]

    def put(self, key, cell, count):
        put_row(self.counts, key, count)
        if cell is not None:
            put_row(self.sums, key, cell * count)
