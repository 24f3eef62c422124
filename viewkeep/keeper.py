"""The keeper: tables and views by names, poured to and asked."""

from viewkeep.bags import bag_of, told, turned
from viewkeep.cells import is_row, is_whole
from viewkeep.errors import NoChange, NoCount, NoName, NoRow, NoWidth, Short, TooLarge, Twice
from viewkeep.machine import Machine
from viewkeep.plain import plain
from viewkeep.reader import read
from viewkeep.views import is_name, look, names_in, size

MOST_WIDTH = 12
MOST_SIZE = 200


class Keeper:
    def __init__(self):
        self.machine = Machine()
        # Each of these goes by names in the order in which they were made; the last two have views alone.
        self.numbers = {}
        self.widths = {}
        self.sizes = {}
        self.made_at = {}
        self.views = {}
        self.texts = {}
        self.deeds = 0
        self.last = []
        self.pours = []

    def table(self, name, width):
        self.check_new(name)
        if not is_whole(width) or not 1 <= width <= MOST_WIDTH:
            raise NoWidth("a table's width is a whole number from 1 to 12")
        self.enter(name, self.machine.table(name, width), 1)

    def view(self, name, text):
        self.check_new(name)
        V = read(text)
        look(V, self.widths)
        total = size(V, self.sizes)
        if total > MOST_SIZE:
            raise TooLarge("the view's size is more than 200")
        self.enter(name, self.machine.lay(V, self.numbers), total)
        self.views[name] = V
        self.texts[name] = text

    def check_new(self, name):
        if not is_name(name):
            raise NoName("this is no name")
        if name in self.numbers:
            raise Twice("a table or view has this name already")

    def enter(self, name, number, total):
        self.numbers[name] = number
        self.widths[name] = self.machine.width(number)
        self.sizes[name] = total
        self.made_at[name] = self.deeds

    def pour(self, changes):
        bags = self.looked_through(changes)
        for name, bag in bags.items():
            self.check_enough(self.numbers[name], bag)
        self.run(bags)
        self.pours.append(bags)

    def looked_through(self, changes):
        lists = {}
        for name, row, count in changes:
            self.check_change(name, row, count)
            pairs = lists.setdefault(name, [])
            pairs.append((row, count))
        return dict([(name, bag_of(pairs)) for name, pairs in lists.items()])

    def check_change(self, name, row, count):
        if not is_name(name) or name not in self.numbers or name in self.views:
            raise NoName("no table has this name")
        if not is_row(row, self.widths[name]) or not all([has_figures(cell, 10 ** 30) for cell in row]):
            raise NoRow("this is no row of the table")
        if not is_whole(count) or count == 0 or not has_figures(count, 10 ** 18):
            raise NoCount("this is no count")

    def check_enough(self, number, bag):
        for row, count in bag.items():
            if self.machine.count_at(number, row) + count < 0:
                raise Short("the count of a row would come below 0")

    def run(self, bags):
        self.last = self.machine.run(bags)
        self.deeds = self.deeds + 1

    def back(self):
        if len(self.pours) == 0:
            raise NoChange("there is nothing to be taken back")
        bags = self.pours.pop()
        self.run(dict([(name, turned(bag)) for name, bag in bags.items()]))

    def ask(self, name):
        return told(self.machine.rows_of(self.node(name)))

    def told(self, name):
        number = self.node(name)
        # A node may be older than the name that shares it: what it told ahead was not told of this name.
        if self.made_at[name] == self.deeds:
            return []
        return told(self.last[number])

    def plainly(self, name):
        self.check_known(name)
        needed = self.names_needed(name)
        stocks = {}
        widths = {}
        # Only what was made ahead is known to a view: a name of its rounds may since have become a table's.
        for other in [each for each in self.numbers if each in needed]:
            stocks[other] = self.plain_stock(other, stocks, widths)
            widths[other] = self.widths[other]
        return told(stocks[name])

    def names_needed(self, name):
        needed = {name: True}
        # Backwards, as a view speaks of names made ahead of it alone; step by step, as there may be very many.
        for other in reversed(list(self.views)):
            if other in needed:
                needed.update(dict([(inner, True) for inner in names_in(self.views[other])]))
        return needed

    def plain_stock(self, name, stocks, widths):
        if name in self.views:
            return plain(self.views[name], stocks, widths)
        return self.machine.rows_of(self.numbers[name])

    def check_known(self, name):
        if not is_name(name) or name not in self.numbers:
            raise NoName("no table or view has this name")

    def node(self, name):
        self.check_known(name)
        return self.numbers[name]

    def width(self, name):
        self.check_known(name)
        return self.widths[name]

    def size(self, name):
        self.check_known(name)
        return self.sizes[name]

    def depth(self):
        return len(self.pours)

    def nodes(self):
        return self.machine.nodes()

    def memory(self, k):
        return self.machine.memory(k)

    def kept(self):
        return [self.kept_entry(name) for name in self.numbers]

    def kept_entry(self, name):
        if name in self.views:
            return ("view", name, self.texts[name])
        return ("table", name, self.widths[name], self.ask(name))

    def fill(self, bags):
        # No deed: the rows were there ahead of this keeper.
        self.machine.run(bags)


def has_figures(cell, bound):
    return cell is None or -bound < cell < bound


def again(kept):
    keeper = Keeper()
    bags = {}
    for entry in kept:
        if entry[0] == "table":
            keeper.table(entry[1], entry[2])
            bags[entry[1]] = bag_of(entry[3])
        else:
            keeper.view(entry[1], entry[2])
    keeper.fill(bags)
    return keeper
