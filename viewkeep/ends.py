"""The parts for least and most."""

from viewkeep.cells import cut
from viewkeep.deeds import least, most
from viewkeep.keyed import Keyed


class Ends(Keyed):
    def __init__(self, p, by):
        Keyed.__init__(self, 1)
        self.p = p
        self.by = by
        # Of what is kept, the cell that counts stands behind those of the group.
        self.last = len(by)
        self.ahead = tuple(range(len(by)))

    def needs(self):
        return [("cut", 0, self.by + (self.p,))]

    def key_of(self, i, row):
        return cut(row, self.by)

    def kept_row(self, i, row):
        return cut(row, self.by + (self.p,))


class Least(Ends):
    def plain(self, bags):
        return least(bags[0], self.p, self.by)

    def made(self, key, bags):
        return least(bags[0], self.last, self.ahead)


class Most(Ends):
    def plain(self, bags):
        return most(bags[0], self.p, self.by)

    def made(self, key, bags):
        return most(bags[0], self.last, self.ahead)
