"""The part for join."""

from viewkeep.bags import bag_of, told
from viewkeep.cells import cut
from viewkeep.deeds import crossed, first_places, joined, second_places
from viewkeep.parts import Part
from viewkeep.shelves import Shelves


class Join(Part):
    def __init__(self, pairs):
        self.pairs = pairs
        self.one = Shelves()
        self.other = Shelves()

    def needs(self):
        return [("rows", 0), ("rows", 1)]

    def memory(self):
        return [told(self.one.whole()), told(self.other.whole())]

    def plain(self, bags):
        return joined(bags[0], bags[1], self.pairs)

    def change(self, changes):
        # New rows of the one go with the other as it was, new rows of the other with the one as it is now:
        # so what is new on both sides is met just once.
        made = self.with_other(changes[0])
        put_all(self.one, changes[0], first_places(self.pairs))
        made.extend(self.with_one(changes[1]))
        put_all(self.other, changes[1], second_places(self.pairs))
        return bag_of(made)

    def with_other(self, change):
        places = first_places(self.pairs)
        made = []
        for row, count in change.items():
            made.extend(crossed(row, count, self.other.at(cut(row, places))))
        return made

    def with_one(self, change):
        places = second_places(self.pairs)
        made = []
        for row, count in change.items():
            ahead = self.one.at(cut(row, places))
            made.extend([(first + row, many * count) for first, many in ahead.items()])
        return made


def put_all(shelves, change, places):
    for row, count in change.items():
        shelves.put(cut(row, places), row, count)
