"""Parts, and those that let changes through without remembering."""

from viewkeep.bags import added
from viewkeep.deeds import reckoned, sieved
from viewkeep.exprs import column, test


class Part:
    def needs(self):
        return []

    def memory(self):
        return []

    def plain(self, bags):
        raise NotImplementedError("each word has its own")

    def change(self, changes):
        raise NotImplementedError("each word has its own")


class Through(Part):
    def change(self, changes):
        # What these words make of two bags added is what they make of each, added: so of a change, too.
        return self.plain(changes)


class Sieve(Through):
    def __init__(self, C):
        self.condition = C

    def plain(self, bags):
        return sieved(bags[0], test(self.condition))


class Columns(Through):
    def __init__(self, columns):
        self.columns = columns

    def plain(self, bags):
        return reckoned(bags[0], [column(E) for E in self.columns])


class Pour(Through):
    def plain(self, bags):
        return added(bags[0], bags[1])
