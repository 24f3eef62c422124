"""The parts for both, either and less."""

from viewkeep.deeds import both, either, less
from viewkeep.keyed import Keyed


class Twos(Keyed):
    def __init__(self):
        Keyed.__init__(self, 2)

    def needs(self):
        return [("rows", 0), ("rows", 1)]

    def made(self, key, bags):
        return self.plain(bags)


class Both(Twos):
    def plain(self, bags):
        return both(bags[0], bags[1])


class Either(Twos):
    def plain(self, bags):
        return either(bags[0], bags[1])


class Less(Twos):
    def plain(self, bags):
        return less(bags[0], bags[1])
