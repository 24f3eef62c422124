"""Nets: rows of nodes that views are laid into, nodes alike just once."""

from viewkeep.deeds import second_places
from viewkeep.views import besides_of, views_in, width_over, with_name


def needs_of(node):
    word, besides, inputs = node
    if word in ("table", "sieve", "cols", "pour"):
        return []
    if word in ("once", "first"):
        return [("rows", 0)]
    if word == "count":
        return [("cut", 0, besides[0])]
    if word == "sum":
        return [("cut", 0, besides[1]), ("sums", 0, besides[1], besides[0])]
    if word in ("least", "most"):
        return [("cut", 0, besides[1] + (besides[0],))]
    if word == "notin":
        return [("rows", 0), ("cut", 1, second_places(besides[0]))]
    return [("rows", 0), ("rows", 1)]


class Net:
    def __init__(self):
        self.laid = []
        self.node_widths = []
        self.number_of = {}

    def table(self, name, width):
        return self.put_node(("table", (name, width), ()), width)

    def lay(self, V, names):
        if V[0] == "name":
            return names[V[1]]
        if V[0] == "rounds":
            return self.lay_rounds(V, names)
        inputs = tuple([self.lay(view, names) for view in views_in(V)])
        return self.lay_word(V[0], besides_of(V), inputs)

    def lay_rounds(self, V, names):
        now = self.lay_word("once", (), (self.lay(V[3], names),))
        for number in range(V[2]):
            more = self.lay(V[4], with_name(names, V[1], now))
            now = self.lay_word("once", (), (self.lay_word("pour", (), (now, more)),))
        return now

    def lay_word(self, word, besides, inputs):
        inner = [self.node_widths[k] for k in inputs]
        told = besides + (inner[1],) if word == "left" else besides
        return self.put_node((word, told, inputs), width_over(word, besides, inner))

    def put_node(self, node, width):
        if node not in self.number_of:
            self.number_of[node] = len(self.laid)
            self.laid.append(node)
            self.node_widths.append(width)
        return self.number_of[node]

    def width(self, k):
        return self.node_widths[k]

    def nodes(self):
        return list(self.laid)
