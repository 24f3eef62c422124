"""Machines: nets with a part for each node but tables, which keep the rows of their nodes."""

from viewkeep.ends import Least, Most
from viewkeep.firsts import First, Once
from viewkeep.gaps import Left, NotIn
from viewkeep.joins import Join
from viewkeep.nodes import Net
from viewkeep.parts import Columns, Pour, Sieve
from viewkeep.shelves import put_row
from viewkeep.tallies import Count, Sum
from viewkeep.twos import Both, Either, Less


def part_of(node):
    word, besides, inputs = node
    if len(inputs) == 1:
        return part_of_one(word, besides)
    if word == "join":
        return Join(besides[0])
    if word == "left":
        return Left(besides[0], besides[1])
    if word == "notin":
        return NotIn(besides[0])
    if word == "pour":
        return Pour()
    if word == "both":
        return Both()
    if word == "either":
        return Either()
    return Less()


def part_of_one(word, besides):
    if word == "sieve":
        return Sieve(besides[0])
    if word == "cols":
        return Columns(besides[0])
    if word == "once":
        return Once()
    if word == "count":
        return Count(besides[0])
    if word == "sum":
        return Sum(besides[0], besides[1])
    if word == "least":
        return Least(besides[0], besides[1])
    if word == "most":
        return Most(besides[0], besides[1])
    return First(besides[0], besides[1], besides[2])


class Machine:
    def __init__(self):
        self.net = Net()
        self.parts = []
        self.node_rows = []

    def table(self, name, width):
        k = self.net.table(name, width)
        self.set_up()
        return k

    def lay(self, V, names):
        k = self.net.lay(V, names)
        self.set_up()
        return k

    def set_up(self):
        fresh = self.net.nodes()[len(self.parts):]
        for node in fresh:
            if node[0] == "table":
                self.parts.append(None)
                self.node_rows.append({})
            else:
                # To a part newly made the rows that its inputs have already are a change like any other.
                part = part_of(node)
                self.parts.append(part)
                self.node_rows.append(part.change([self.node_rows[k] for k in node[2]]))

    def width(self, k):
        return self.net.width(k)

    def nodes(self):
        return self.net.nodes()

    def run(self, changes):
        made = []
        for k, node in enumerate(self.net.nodes()):
            if node[0] == "table":
                change = dict(changes.get(node[1][0], {}))
            else:
                change = self.parts[k].change([made[i] for i in node[2]])
            made.append(change)
            self.add_rows(k, change)
        return made

    def add_rows(self, k, change):
        for row, count in change.items():
            put_row(self.node_rows[k], row, count)

    def rows_of(self, k):
        return dict(self.node_rows[k])

    def count_at(self, k, row):
        return self.node_rows[k].get(row, 0)

    def memory(self, k):
        return [] if self.parts[k] is None else self.parts[k].memory()
