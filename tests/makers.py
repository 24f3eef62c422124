"""Views, rows and bags made by a seeded chance, all within the bounds that the document tells."""

import random

CELLS = [None, None, -2, -1, 0, 0, 1, 1, 2, 3]
OVER_ONE = ["sieve", "cols", "once", "count", "sum", "least", "most", "first"]
PAIRED = ["join", "left", "notin"]
OF_ONE_WIDTH = ["pour", "both", "either", "less"]
WORDS = OVER_ONE + PAIRED + OF_ONE_WIDTH


class Maker:
    """A source of things by chance, the same ones each time for the same seed."""

    def __init__(self, seed):
        self.chance = random.Random(seed)

    def row(self, width):
        return tuple(self.chance.choice(CELLS) for place in range(width))

    def stock(self, width, most=6):
        return {self.row(width): self.chance.randint(1, 3) for number in range(self.chance.randint(0, most))}

    def bag(self, width, most=6):
        return {self.row(width): self.chance.choice([-3, -2, -1, 1, 2, 3])
                for number in range(self.chance.randint(0, most))}

    def change(self, stock, width, most=4):
        """A bag that leaves the stock a stock."""
        change = {}
        for number in range(self.chance.randint(0, most)):
            if stock and self.chance.random() < 0.6:
                row = self.chance.choice(sorted(stock, key=repr))
            else:
                row = self.row(width)
            there = stock.get(row, 0)
            count = self.chance.choice([-there, -1, 1, 2])
            if count != 0 and there + count >= 0:
                change[row] = count
        return change

    def places(self, width, most=2):
        return tuple(self.chance.randrange(width) for number in range(self.chance.randint(0, most)))

    def pairs(self, one, other, most=2):
        return tuple((self.chance.randrange(one), self.chance.randrange(other))
                     for number in range(self.chance.randint(0, most)))

    def order(self, width, most=2):
        return tuple((place, self.chance.random() < 0.5) for place in self.places(width, most))

    def column(self, width, depth=2):
        if depth == 0 or self.chance.random() < 0.4:
            return self.chance.choice([("at", self.chance.randrange(width)), ("at", self.chance.randrange(width)),
                                       ("num", self.chance.randint(-3, 3)), ("gap",)])
        word = self.chance.choice(["plus", "minus", "times", "part", "rest", "if"])
        if word in ("plus", "minus"):
            return (word, self.column(width, depth - 1), self.column(width, depth - 1))
        if word == "times":
            return (word, self.chance.randint(-3, 3), self.column(width, depth - 1))
        if word in ("part", "rest"):
            return (word, self.chance.randint(1, 4), self.column(width, depth - 1))
        return (word, self.test(width, depth - 1), self.column(width, depth - 1), self.column(width, depth - 1))

    def test(self, width, depth=2):
        word = self.chance.choice(["below", "same"] if depth <= 0 else ["below", "same", "not", "and", "or"])
        if word in ("below", "same"):
            return (word, self.column(width, depth - 1 if depth else 0), self.column(width, depth - 1 if depth else 0))
        if word == "not":
            return (word, self.test(width, depth - 1))
        return (word, self.test(width, depth - 1), self.test(width, depth - 1))

    def view(self, widths, depth=3, most=4):
        """A view that is let by, and its width, at most so many cells wide."""
        if depth == 0 or self.chance.random() < 0.15:
            name = self.chance.choice(sorted(name for name in widths if widths[name] <= most))
            return ("name", name), widths[name]
        word = self.chance.choice(WORDS + ["rounds"])
        if word == "rounds":
            return self.rounds(widths, depth, most)
        if word in OVER_ONE:
            return self.over_one(word, widths, depth, most)
        return self.over_two(word, widths, depth, most)

    def over_one(self, word, widths, depth, most):
        view, width = self.view(widths, depth - 1, most)
        if word == "sieve":
            return (word, view, self.test(width)), width
        if word == "cols":
            many = self.chance.randint(1, most)
            return (word, view, tuple(self.column(width) for number in range(many))), many
        if word == "once":
            return (word, view), width
        by = self.places(width, most - 1)
        if word == "count":
            return (word, view, by), len(by) + 1
        if word == "first":
            return (word, view, self.chance.randint(0, 5), by, self.order(width)), width
        return (word, view, self.chance.randrange(width), by), len(by) + 1

    def over_two(self, word, widths, depth, most):
        one, first = self.view(widths, depth - 1, most)
        other, second = self.view(widths, depth - 1, most)
        if word in PAIRED and (word == "notin" or first + second <= most):
            return (word, one, other, self.pairs(first, second)), first + (0 if word == "notin" else second)
        if word in PAIRED:
            word = "pour"
        return (word, one, self.fitted(other, second, first)), first

    def rounds(self, widths, depth, most):
        name = self.chance.choice([name for name in ("x", "y", "z", "round") if name not in widths] or ["none"])
        if name in widths or name == "none":
            return self.over_one("once", widths, depth, most)
        one, first = self.view(widths, depth - 1, most)
        other, second = self.view({**widths, name: first}, depth - 1, most)
        return ("rounds", name, self.chance.randint(1, 3), one, self.fitted(other, second, first)), first

    def fitted(self, view, width, wanted):
        """The view, or its columns drawn so that it is as wide as wanted."""
        if width == wanted:
            return view
        return ("cols", view, tuple(("at", self.chance.randrange(width)) for place in range(wanted)))
