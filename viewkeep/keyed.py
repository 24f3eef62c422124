"""The base of parts that go by keys."""

from viewkeep.bags import bag_of, told, turned
from viewkeep.parts import Part
from viewkeep.shelves import Shelves


class Keyed(Part):
    def __init__(self, many):
        self.shelves = [Shelves() for number in range(many)]

    def key_of(self, i, row):
        return row

    def kept_row(self, i, row):
        return row

    def made(self, key, bags):
        raise NotImplementedError("each word has its own")

    def memory(self):
        return [told(shelves.whole()) for shelves in self.shelves]

    def change(self, changes):
        touched = self.touched_keys(changes)
        pairs = []
        for key in touched:
            pairs.extend(list(turned(self.made_of(key)).items()))
        self.take(changes)
        for key in touched:
            pairs.extend(list(self.made_of(key).items()))
        return bag_of(pairs)

    def touched_keys(self, changes):
        keys = {}
        for i, change in enumerate(changes):
            for row in change:
                keys[self.key_of(i, row)] = True
        return list(keys)

    def made_of(self, key):
        return self.made(key, [shelves.at(key) for shelves in self.shelves])

    def take(self, changes):
        for i, change in enumerate(changes):
            for row, count in change.items():
                self.shelves[i].put(self.key_of(i, row), self.kept_row(i, row), count)
