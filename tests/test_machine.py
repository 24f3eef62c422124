"""Points 29 and 30: machines."""

import copy
import inspect
import unittest

import oracle
from makers import Maker
from viewkeep.ends import Least, Most
from viewkeep.firsts import First, Once
from viewkeep.gaps import Left, NotIn
from viewkeep.joins import Join
from viewkeep.machine import Machine, part_of
from viewkeep.nodes import Net, needs_of
from viewkeep.parts import Columns, Pour, Sieve
from viewkeep.reader import read
from viewkeep.tallies import Count, Sum
from viewkeep.twos import Both, Either, Less
from viewkeep.views import size

WIDTHS = {"a": 2, "b": 2, "c": 1}
SAME = ("same", ("at", 0), ("at", 1))
# A view of each word, some drawing from one node twice, some with parts that others have, too.
TEXTS = ["a", "(sieve a (below #0 #1))", "(cols a #1 (plus #0 #0))", "(join a b #0=#0)", "(join a a #0=#1)",
         "(join c c)",
         "(left a b #0=#0)", "(left c a #0=#1)", "(left b b #0=#1)", "(notin a b #0=#0)", "(notin a a #0=#1)",
         "(pour a b)", "(pour a a)", "(both a b)", "(both a a)", "(either a b)", "(less a b)", "(less b b)", "(once a)",
         "(count a by #0)", "(count c by)", "(sum a #1 by #0)", "(least a #1 by #0)", "(most a #1 by)",
         "(first a 2 by #0 order -1)", "(rounds x 3 a (cols (join x b #1=#0) #0 #3))",
         "(less (once a) (once b))", "(sum (left a (count b by #0) #0=#0) #3 by #0)",
         "(first (pour a (once a)) 3 by order +0 -1)", "(both (left c c #0=#0) (join c c #0=#0))"]


class MachineCase(unittest.TestCase):
    def new_machine(self, texts):
        machine = Machine()
        names = {name: machine.table(name, width) for name, width in WIDTHS.items()}
        for text in texts:
            machine.lay(read(text), names)
        return machine, names

    def check_machine(self, machine, tables):
        """Rows and memory of every node against what its word makes and needs of its inputs' rows."""
        rows = []
        for k, node in enumerate(machine.nodes()):
            word, besides, inputs = node
            inner = [rows[i] for i in inputs]
            rows.append(tables[besides[0]] if word == "table" else oracle.made(word, besides, inner))
            self.assertEqual(machine.rows_of(k), rows[k])
            self.assertEqual(machine.memory(k), oracle.memory_of(needs_of(node), inner))
        return rows

    def next_changes(self, maker, tables):
        changes = {name: maker.change(stock, WIDTHS[name]) for name, stock in tables.items()}
        for name in list(changes):
            if maker.chance.random() < 0.3:
                changes.pop(name)
        return changes


class TestPartOf(unittest.TestCase):
    def test_a_part_of_each_word(self):
        for node, kind in [(("sieve", (SAME,), (0,)), Sieve), (("cols", ((("at", 0),),), (0,)), Columns),
                           (("join", ((),), (0, 1)), Join), (("left", ((), 2), (0, 1)), Left),
                           (("notin", ((),), (0, 1)), NotIn), (("pour", (), (0, 0)), Pour), (("both", (), (0, 1)),
                                                                                             Both),
                           (("either", (), (0, 1)), Either), (("less", (), (0, 1)), Less), (("once", (), (0,)), Once),
                           (("count", ((),), (0,)), Count), (("sum", (0, ()), (0,)), Sum),
                           (("least", (0, ()), (0,)), Least), (("most", (0, ()), (0,)), Most),
                           (("first", (1, (), ()), (0,)), First)]:
            part = part_of(node)
            self.assertIs(part.__class__, kind)
            self.assertEqual(part.memory(), [[] for need in part.needs()])
            self.assertIsNot(part_of(node), part)

    def test_each_part_is_newly_made(self):
        node = ("once", (), (0,))
        one, other = part_of(node), part_of(node)
        one.change([{(1,): 1}])
        self.assertEqual(other.memory(), [[]])


class TestMachine(MachineCase):
    def test_a_new_machine(self):
        machine = Machine()
        self.assertEqual((machine.nodes(), machine.run({})), ([], []))
        self.assertEqual(machine.table("a", 2), 0)
        self.assertEqual((machine.rows_of(0), machine.memory(0), machine.width(0)), ({}, [], 2))
        self.assertEqual(machine.run({}), [{}])

    def test_by_hand(self):
        machine, names = self.new_machine(["(count (once a) by #0)", "(pour (once a) b)"])
        self.assertEqual([node[0] for node in machine.nodes()], ["table", "table", "table", "once", "count", "pour"])
        told = machine.run({"a": {(1, 5): 2, (1, 6): 1}, "b": {(1, 5): 1}})
        self.assertEqual(told, [{(1, 5): 2, (1, 6): 1}, {(1, 5): 1}, {}, {(1, 5): 1, (1, 6): 1}, {(1, 2): 1},
                                {(1, 5): 2, (1, 6): 1}])
        told = machine.run({"a": {(1, 5): -1, (1, 6): -1}})
        self.assertEqual(told, [{(1, 5): -1, (1, 6): -1}, {}, {}, {(1, 6): -1}, {(1, 2): -1, (1, 1): 1}, {(1, 6): -1}])
        self.assertEqual(machine.rows_of(0), {(1, 5): 1})
        self.assertEqual(machine.rows_of(4), {(1, 1): 1})
        self.assertEqual(machine.memory(3), [[((1, 5), 1)]])
        self.assertEqual(machine.memory(0), [])
        self.assertEqual(machine.memory(5), [])

    def test_it_lays_like_a_net(self):
        machine, names = self.new_machine([])
        net = Net()
        net_names = {name: net.table(name, width) for name, width in WIDTHS.items()}
        self.assertEqual(names, net_names)
        for text in TEXTS:
            self.assertEqual(machine.lay(read(text), names), net.lay(read(text), names))
            self.assertEqual(machine.nodes(), net.nodes())
        for k in range(len(net.nodes())):
            self.assertEqual(machine.width(k), net.width(k))

    def test_many_runs(self):
        maker = Maker(29)
        machine, names = self.new_machine(TEXTS)
        tables = {name: {} for name in WIDTHS}
        rows = self.check_machine(machine, tables)
        for step in range(25):
            changes = self.next_changes(maker, tables)
            told = machine.run(changes)
            self.assertEqual(len(told), len(machine.nodes()))
            tables = {name: oracle.plus(stock, changes.get(name, {})) for name, stock in tables.items()}
            before, rows = rows, self.check_machine(machine, tables)
            for k, change in enumerate(told):
                self.assertNotIn(0, change.values())
                self.assertEqual(oracle.plus(before[k], change), rows[k])
            for name, k in names.items():
                self.assertEqual(told[k], changes.get(name, {}))
        for name in tables:
            machine.run({name: {row: -count for row, count in tables[name].items()}})
        self.check_machine(machine, {name: {} for name in tables})

    def test_views_laid_when_the_tables_have_rows(self):
        maker = Maker(30)
        machine, names = self.new_machine([])
        tables = {name: {} for name in WIDTHS}
        for text in TEXTS:
            changes = self.next_changes(maker, tables)
            machine.run(changes)
            tables = {name: oracle.plus(stock, changes.get(name, {})) for name, stock in tables.items()}
            machine.lay(read(text), names)
            self.check_machine(machine, tables)
        early, names = self.new_machine(TEXTS)
        early.run(tables)
        self.assertEqual(early.nodes(), machine.nodes())
        for k in range(len(machine.nodes())):
            self.assertEqual((early.rows_of(k), early.memory(k)), (machine.rows_of(k), machine.memory(k)))

    def test_views_by_chance(self):
        maker = Maker(31)
        for number in range(40):
            texts = []
            machine, names = self.new_machine([])
            tables = {name: {} for name in WIDTHS}
            for step in range(8):
                view = maker.view(WIDTHS, 3, 4)[0]
                if size(view, {name: 1 for name in WIDTHS}) <= 60:
                    machine.lay(view, names)
                    texts.append(view)
                changes = self.next_changes(maker, tables)
                machine.run(changes)
                tables = {name: oracle.plus(stock, changes.get(name, {})) for name, stock in tables.items()}
                with self.subTest(number=number, step=step, texts=texts, tables=tables):
                    self.check_machine(machine, tables)


class TestNothingIsShared(MachineCase):
    def test_what_is_handed_in_stays_and_what_is_given_is_new(self):
        maker = Maker(32)
        machine, names = self.new_machine(TEXTS)
        tables = {name: {} for name in WIDTHS}
        for step in range(6):
            changes = self.next_changes(maker, tables)
            tables = {name: oracle.plus(stock, changes.get(name, {})) for name, stock in tables.items()}
            kept = copy.deepcopy(changes)
            told = machine.run(changes)
            expected = copy.deepcopy(told)
            self.assertEqual(changes, kept)
            for bag in changes.values():
                bag.clear()
            changes.clear()
            self.assertEqual(told, expected)
            # no two of the bags are one, and none is the machine's own
            for k, bag in enumerate(told):
                bag[("mark", k)] = 1
                self.assertEqual([other for other in range(len(told)) if ("mark", k) in told[other]], [k])
            told.clear()
            for k in range(len(machine.nodes())):
                machine.rows_of(k).clear()
                for thing in machine.memory(k):
                    thing.clear()
                machine.memory(k).clear()
            machine.nodes().clear()
            self.check_machine(machine, tables)

    def test_rows_once_given_stay(self):
        machine, names = self.new_machine(["(once a)"])
        machine.run({"a": {(1, 1): 1}})
        rows = [machine.rows_of(k) for k in range(4)]
        memory = machine.memory(3)
        machine.run({"a": {(2, 2): 1, (1, 1): -1}})
        self.assertEqual(rows, [{(1, 1): 1}, {}, {}, {(1, 1): 1}])
        self.assertEqual(memory, [[((1, 1), 1)]])


class TestInterface(unittest.TestCase):
    def test_names_and_arguments(self):
        self.assertEqual(list(inspect.signature(part_of).parameters), ["node"])
        self.assertEqual(list(inspect.signature(Machine).parameters), [])
        for name, arguments in {"table": ["name", "width"], "lay": ["V", "names"], "width": ["k"], "nodes": [],
                                "run": ["changes"], "rows_of": ["k"], "memory": ["k"]}.items():
            self.assertEqual(list(inspect.signature(getattr(Machine, name)).parameters), ["self"] + arguments)


if __name__ == "__main__":
    unittest.main()
