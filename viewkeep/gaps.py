"""The parts for left and notin."""

from viewkeep.cells import cut
from viewkeep.deeds import first_places, left_joined, not_in, second_places
from viewkeep.keyed import Keyed


class Paired(Keyed):
    def __init__(self, pairs):
        Keyed.__init__(self, 2)
        self.pairs = pairs
        self.key_places = [first_places(pairs), second_places(pairs)]

    def key_of(self, i, row):
        return cut(row, self.key_places[i])


class Left(Paired):
    def __init__(self, pairs, width):
        Paired.__init__(self, pairs)
        self.other_width = width

    def needs(self):
        return [("rows", 0), ("rows", 1)]

    def plain(self, bags):
        return left_joined(bags[0], bags[1], self.pairs, self.other_width)

    def made(self, key, bags):
        return self.plain(bags)


class NotIn(Paired):
    def needs(self):
        return [("rows", 0), ("cut", 1, self.key_places[1])]

    def plain(self, bags):
        return not_in(bags[0], bags[1], self.pairs)

    def kept_row(self, i, row):
        return row if i == 0 else self.key_of(i, row)

    def made(self, key, bags):
        # What is kept of the other's rows is the key alone, so that one is there is all that counts.
        return dict(bags[0]) if len(bags[1]) == 0 else {}
