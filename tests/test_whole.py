"""Point 3, over the whole program: by chance, tables and views made, poured to, taken back, kept and come up again."""

import unittest

import oracle
from makers import Maker
from viewkeep.errors import NoChange, NoText, Short, TooLarge
from viewkeep.keeper import Keeper, again
from viewkeep.nodes import needs_of
from viewkeep.views import size
from viewkeep.writer import shown

TABLES = {"a": 2, "b": 2, "c": 1}
NAMES = ["p", "q", "r", "s", "t", "u", "v", "w"]


def memories(keeper):
    return [keeper.memory(k) for k in range(len(keeper.nodes()))]


class Session:
    """A keeper, and beside it what its tables and views are to be, told by the oracle alone."""

    def __init__(self, case, seed):
        self.case = case
        self.maker = Maker(seed)
        self.keeper = Keeper()
        self.widths = {}
        self.tables = {}
        self.views = {}
        self.before = []
        for name, width in TABLES.items():
            self.keeper.table(name, width)
            self.widths[name] = width
            self.tables[name] = {}
        self.check(None)

    def add_view(self, most=60):
        view, width = self.maker.view(self.widths, self.maker.chance.randint(1, 3), 4)
        text = shown(view)
        name = NAMES[len(self.views)]
        if len(text) > 2000 or size(view, {other: self.keeper.size(other) for other in self.widths}) > most:
            return
        self.keeper.view(name, text)
        self.widths[name] = width
        self.views[name] = view
        self.case.assertEqual(self.keeper.told(name), [])

    def expected(self):
        told = {name: (stock, TABLES[name]) for name, stock in self.tables.items()}
        for name, view in self.views.items():
            told[name] = oracle.told_view(view, told)
        return {name: stock for name, (stock, width) in told.items()}

    def check(self, ahead):
        """Every view against the oracle and the plain teller; the told change against the rows ahead of the deed."""
        keeper, expected = self.keeper, self.expected()
        for name, stock in expected.items():
            self.case.assertEqual(keeper.ask(name), oracle.in_row_order(stock))
            self.case.assertEqual(keeper.plainly(name), keeper.ask(name))
            if ahead is not None:
                told = keeper.told(name)
                self.case.assertEqual(len({row for row, count in told}), len(told))
                self.case.assertEqual(told, oracle.in_row_order(dict(told)))
                self.case.assertEqual(oracle.plus(ahead[name], dict(told)), stock)
        rows = []
        for k, (word, besides, inputs) in enumerate(keeper.nodes()):
            inner = [rows[i] for i in inputs]
            rows.append(self.tables[besides[0]] if word == "table" else oracle.made(word, besides, inner))
            self.case.assertEqual(keeper.memory(k), oracle.memory_of(needs_of((word, besides, inputs)), inner))
        return expected

    def pour(self):
        ahead = self.expected()
        changes = {name: self.maker.change(stock, TABLES[name]) for name, stock in self.tables.items()}
        self.before.append(dict(self.tables))
        poured = [(name, row, count) for name, change in changes.items() for row, count in change.items()]
        self.maker.chance.shuffle(poured)
        self.keeper.pour(poured)
        self.tables = {name: oracle.plus(stock, changes[name]) for name, stock in self.tables.items()}
        self.check(ahead)

    def back(self):
        if not self.before:
            self.case.assertRaises(NoChange, self.keeper.back)
            return
        ahead = self.expected()
        self.keeper.back()
        self.tables = self.before.pop()
        self.check(ahead)

    def again(self):
        other = again(self.keeper.kept())
        self.case.assertEqual(other.kept(), self.keeper.kept())
        self.case.assertEqual(other.nodes(), self.keeper.nodes())
        self.case.assertEqual(memories(other), memories(self.keeper))
        for name in self.widths:
            self.case.assertEqual((other.told(name), other.ask(name)), ([], self.keeper.ask(name)))
        self.case.assertEqual(other.depth(), 0)
        self.keeper = other
        self.before = []


class TestSessions(unittest.TestCase):
    def test_views_against_the_oracle_behind_every_deed(self):
        for seed in range(40):
            with self.subTest(seed=seed):
                session = Session(self, seed)
                for step in range(14):
                    if len(session.views) < len(NAMES) and session.maker.chance.random() < 0.5:
                        session.add_view()
                    deeds = ["pour", "pour", "pour", "back", "again"] if step > 5 else ["pour"]
                    deed = session.maker.chance.choice(deeds)
                    getattr(session, deed)()
                    self.assertEqual(session.keeper.depth(), len(session.before))
                while session.before:
                    session.back()
                session.back()

    def test_a_pour_and_its_taking_back_leave_every_memory(self):
        for seed in range(100, 120):
            session = Session(self, seed)
            for number in range(5):
                session.add_view()
            for number in range(3):
                session.pour()
                before = (memories(session.keeper), session.expected())
                session.pour()
                session.pour()
                session.back()
                session.back()
                self.assertEqual((memories(session.keeper), session.expected()), before)


class TestOrders(unittest.TestCase):
    def keepers(self, seed, many):
        maker = Maker(seed)
        views = []
        while len(views) < 5:
            view = maker.view(TABLES, 3, 4)[0]
            if size(view, {name: 1 for name in TABLES}) <= 60 and len(shown(view)) <= 2000:
                views.append(view)
        begin = {name: maker.stock(width) for name, width in TABLES.items()}
        keepers = []
        for number in range(many):
            keeper = Keeper()
            for name, width in TABLES.items():
                keeper.table(name, width)
            for name, view in zip(NAMES, views):
                keeper.view(name, shown(view))
            keeper.pour([(name, row, count) for name, stock in begin.items() for row, count in stock.items()])
            keepers.append(keeper)
        return maker, begin, views, keepers

    def test_one_by_one_in_another_order_and_together(self):
        for seed in range(30):
            maker, begin, views, (one, other, together) = self.keepers(seed, 3)
            changes = []
            for name, stock in begin.items():
                for row, count in stock.items():
                    changes += [(name, row, 1), (name, row, -1)][:maker.chance.randint(0, 2)]
                    changes += [(name, row, -1)] * maker.chance.randint(0, count)
                changes += [(name, maker.row(TABLES[name]), 1) for number in range(2)]
            for change in changes:
                one.pour([change])
            self.pour_somehow(other, maker.chance.sample(changes, len(changes)))
            together.pour(changes)
            with self.subTest(seed=seed):
                self.assertEqual(other.kept(), one.kept())
                self.assertEqual(together.kept(), one.kept())
                self.assertEqual(memories(other), memories(one))
                self.assertEqual(memories(together), memories(one))
                for name in list(TABLES) + NAMES[:5]:
                    self.assertEqual(other.ask(name), one.ask(name))
                    self.assertEqual(together.ask(name), one.ask(name))

    def pour_somehow(self, keeper, changes):
        """One by one; what is refused midway comes again behind the others."""
        left = list(changes)
        while left:
            later = []
            for change in left:
                try:
                    keeper.pour([change])
                except Short:
                    later.append(change)
            self.assertLess(len(later), len(left))
            left = later

    def test_views_that_share_parts_are_told_as_views_alone(self):
        for seed in range(50, 70):
            maker, begin, views, (keeper,) = self.keepers(seed, 1)
            alone = []
            for name, view in zip(NAMES, views):
                other = Keeper()
                for table, width in TABLES.items():
                    other.table(table, width)
                other.view(name, shown(view))
                other.pour([(table, row, count) for table, stock in begin.items() for row, count in stock.items()])
                alone.append((name, other))
            tables = begin
            for step in range(4):
                changes = {name: maker.change(stock, TABLES[name]) for name, stock in tables.items()}
                tables = {name: oracle.plus(stock, changes[name]) for name, stock in tables.items()}
                poured = [(name, row, count) for name, change in changes.items() for row, count in change.items()]
                keeper.pour(poured)
                for name, other in alone:
                    other.pour(poured)
                    self.assertEqual((other.ask(name), other.told(name)), (keeper.ask(name), keeper.told(name)))
                    node = keeper.node(name)
                    self.assertEqual(other.memory(other.node(name)), keeper.memory(node))

    def test_a_keeper_come_up_again_goes_on_like_the_one_before(self):
        for seed in range(80, 100):
            maker, begin, views, (keeper,) = self.keepers(seed, 1)
            other = again(keeper.kept())
            tables = begin
            for step in range(4):
                changes = {name: maker.change(stock, TABLES[name]) for name, stock in tables.items()}
                tables = {name: oracle.plus(stock, changes[name]) for name, stock in tables.items()}
                poured = [(name, row, count) for name, change in changes.items() for row, count in change.items()]
                keeper.pour(poured)
                other.pour(poured)
                self.assertEqual(memories(other), memories(keeper))
                for name in list(TABLES) + NAMES[:5]:
                    self.assertEqual((other.ask(name), other.told(name)), (keeper.ask(name), keeper.told(name)))
                other = again(other.kept())


class TestLargest(unittest.TestCase):
    def test_views_of_the_greatest_size_and_depth(self):
        keeper = Keeper()
        keeper.table("a", 2)
        # below stands in two brackets more
        text = "(once " * 28 + "(sieve a (below #0 #1))" + ")" * 28
        keeper.view("v", text)
        with self.assertRaises(NoText):
            keeper.view("w", "(once " + text + ")")
        keeper.view("w", "(rounds x 6 a (pour (cols (join x a #1=#0) #0 #3) (cols (left x a #1=#1) #0 #3)))")
        keeper.pour([("a", (number, number + 1), 1) for number in range(8)])
        self.assertEqual(keeper.ask("v"), [((number, number + 1), 1) for number in range(8)])
        for name in "vw":
            self.assertEqual(keeper.plainly(name), keeper.ask(name))
        keeper.pour([("a", (3, 4), -1)])
        for name in "vw":
            self.assertEqual(keeper.plainly(name), keeper.ask(name))
        with self.assertRaises(TooLarge):
            keeper.view("z", "(join w (join w (join w w)))")


if __name__ == "__main__":
    unittest.main()
