"""The parts for once and first."""

from viewkeep.cells import cut
from viewkeep.deeds import firsts, once
from viewkeep.keyed import Keyed


class Once(Keyed):
    def __init__(self):
        Keyed.__init__(self, 1)

    def needs(self):
        return [("rows", 0)]

    def plain(self, bags):
        return once(bags[0])

    def made(self, key, bags):
        return once(bags[0])


class First(Keyed):
    def __init__(self, k, by, order):
        Keyed.__init__(self, 1)
        self.k = k
        self.by = by
        self.order = order

    def needs(self):
        return [("rows", 0)]

    def plain(self, bags):
        return firsts(bags[0], self.k, self.by, self.order)

    def key_of(self, i, row):
        return cut(row, self.by)

    def made(self, key, bags):
        return self.plain(bags)
