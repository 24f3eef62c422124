"""Points 26 to 28: nets, how views are laid into them, and what nodes need."""

import copy
import inspect
import unittest

from makers import Maker
from viewkeep import nodes
from viewkeep.machine import part_of
from viewkeep.nodes import Net, needs_of
from viewkeep.reader import read
from viewkeep.views import look, size

TWO = [("rows", 0), ("rows", 1)]
SAME = ("same", ("at", 0), ("at", 1))
NEEDS = [
    (("table", ("a", 2), ()), []),
    (("sieve", (SAME,), (0,)), []),
    (("cols", ((("at", 0), ("num", 3)),), (0,)), []),
    (("join", (((0, 1),),), (0, 1)), TWO),
    (("join", ((),), (0, 0)), TWO),
    (("left", (((0, 1),), 2), (0, 1)), TWO),
    (("notin", (((0, 1), (2, 0)),), (0, 1)), [("rows", 0), ("cut", 1, (1, 0))]),
    (("notin", ((),), (0, 1)), [("rows", 0), ("cut", 1, ())]),
    (("pour", (), (0, 1)), []),
    (("both", (), (0, 1)), TWO),
    (("either", (), (0, 1)), TWO),
    (("less", (), (0, 1)), TWO),
    (("once", (), (0,)), [("rows", 0)]),
    (("count", ((1, 0),), (0,)), [("cut", 0, (1, 0))]),
    (("count", ((),), (0,)), [("cut", 0, ())]),
    (("sum", (2, (1, 0)), (0,)), [("cut", 0, (1, 0)), ("sums", 0, (1, 0), 2)]),
    (("least", (2, (1, 0)), (0,)), [("cut", 0, (1, 0, 2))]),
    (("most", (0, ()), (0,)), [("cut", 0, (0,))]),
    (("first", (3, (1,), ((0, True),)), (0,)), [("rows", 0)]),
]
A, B = ("table", ("a", 2), ()), ("table", ("b", 3), ())

# Texts of views over a (node 0, two wide) and b (node 1, three wide), and the nodes that are laid behind those.
LAID = [
    ("a", [], 0),
    ("b", [], 1),
    ("(sieve a (same #0 #1))", [("sieve", (SAME,), (0,))], 2),
    ("(cols a #1 (plus #0 1))", [("cols", ((("at", 1), ("plus", ("at", 0), ("num", 1))),), (0,))], 2),
    ("(join a b #0=#2)", [("join", (((0, 2),),), (0, 1))], 2),
    ("(join b a)", [("join", ((),), (1, 0))], 2),
    ("(left a b #0=#2 #1=#1)", [("left", (((0, 2), (1, 1)), 3), (0, 1))], 2),
    ("(left b a)", [("left", ((), 2), (1, 0))], 2),
    ("(left a (count b by #0 #1 #2))", [("count", ((0, 1, 2),), (1,)), ("left", ((), 4), (0, 2))], 3),
    ("(notin a b #0=#2)", [("notin", (((0, 2),),), (0, 1))], 2),
    ("(pour a a)", [("pour", (), (0, 0))], 2),
    ("(both a a)", [("both", (), (0, 0))], 2),
    ("(either b b)", [("either", (), (1, 1))], 2),
    ("(less a a)", [("less", (), (0, 0))], 2),
    ("(once a)", [("once", (), (0,))], 2),
    ("(count a by #1)", [("count", ((1,),), (0,))], 2),
    ("(sum a #0 by #1)", [("sum", (0, (1,)), (0,))], 2),
    ("(least a #0 by)", [("least", (0, ()), (0,))], 2),
    ("(most b #2 by #0 #0)", [("most", (2, (0, 0)), (1,))], 2),
    ("(first a 3 by #1 order -0 +1)", [("first", (3, (1,), ((0, False), (1, True))), (0,))], 2),
    # from the left to the right, then its own
    ("(pour (once a) (sieve a (same #0 #1)))",
     [("once", (), (0,)), ("sieve", (SAME,), (0,)), ("pour", (), (2, 3))], 4),
    ("(join (once b) (once a))", [("once", (), (1,)), ("once", (), (0,)), ("join", ((),), (2, 3))], 4),
    # nodes alike are laid once
    ("(pour (once a) (once a))", [("once", (), (0,)), ("pour", (), (2, 2))], 3),
    ("(less (pour (once a) a) (pour (once a) a))", [("once", (), (0,)), ("pour", (), (2, 0)), ("less", (), (3, 3))], 4),
    ("(pour (pour a (once a)) (once a))", [("once", (), (0,)), ("pour", (), (0, 2)), ("pour", (), (3, 2))], 4),
    # rounds, round by round
    ("(rounds x 1 a x)", [("once", (), (0,)), ("pour", (), (2, 2)), ("once", (), (3,))], 4),
    ("(rounds x 2 a (sieve x (same #0 #1)))",
     [("once", (), (0,)), ("sieve", (SAME,), (2,)), ("pour", (), (2, 3)), ("once", (), (4,)),
      ("sieve", (SAME,), (5,)), ("pour", (), (5, 6)), ("once", (), (7,))], 8),
    ("(rounds x 2 (once a) a)",
     [("once", (), (0,)), ("once", (), (2,)), ("pour", (), (3, 0)), ("once", (), (4,)), ("pour", (), (5, 0)),
      ("once", (), (6,))], 7),
    ("(rounds x 1 a (rounds y 1 x (pour x y)))",
     [("once", (), (0,)), ("once", (), (2,)), ("pour", (), (2, 3)), ("pour", (), (3, 4)), ("once", (), (5,)),
      ("pour", (), (2, 6)), ("once", (), (7,))], 8),
    # rounds whose begin is there already
    ("(pour (once a) (rounds x 1 a a))",
     [("once", (), (0,)), ("pour", (), (2, 0)), ("once", (), (3,)), ("pour", (), (2, 4))], 5),
    # the same name for two rounds, one in the other's V
    ("(rounds x 1 (rounds x 1 a a) x)",
     [("once", (), (0,)), ("pour", (), (2, 0)), ("once", (), (3,)), ("once", (), (4,)), ("pour", (), (5, 5)),
      ("once", (), (6,))], 7),
]


def net_of_tables():
    net = Net()
    return net, {"a": net.table("a", 2), "b": net.table("b", 3)}


class TestNeeds(unittest.TestCase):
    def test_needs_of_each_word(self):
        for node, needs in NEEDS:
            with self.subTest(node=node):
                self.assertEqual(needs_of(node), needs)
                needs_of(node).append("more")
                self.assertEqual(needs_of(node), needs)
        self.assertEqual(len({node[0] for node, needs in NEEDS}), 16)

    def test_parts_need_what_is_told_of_their_nodes(self):
        for node, needs in NEEDS[1:]:
            with self.subTest(node=node):
                self.assertEqual(part_of(node).needs(), needs)


class TestNet(unittest.TestCase):
    def test_a_new_net_has_no_nodes(self):
        self.assertEqual(Net().nodes(), [])

    def test_tables(self):
        net, names = net_of_tables()
        self.assertEqual(names, {"a": 0, "b": 1})
        self.assertEqual(net.nodes(), [A, B])
        self.assertEqual((net.width(0), net.width(1)), (2, 3))

    def test_the_nodes_of_each_word(self):
        for text, expected, own in LAID:
            with self.subTest(text=text):
                net, names = net_of_tables()
                self.assertEqual(net.lay(read(text), names), own)
                self.assertEqual(net.nodes(), [A, B] + expected)

    def test_a_view_laid_again_lays_nothing(self):
        for text, expected, own in LAID:
            net, names = net_of_tables()
            for time in range(3):
                self.assertEqual(net.lay(read(text), names), own)
            self.assertEqual(len(net.nodes()), 2 + len(expected))

    def test_all_views_share_one_net(self):
        net, names = net_of_tables()
        for text, expected, own in LAID:
            net.lay(read(text), names)
        laid = net.nodes()
        self.assertEqual(len(set(laid)), len(laid))
        for number, (word, besides, inputs) in enumerate(laid):
            self.assertTrue(all(k < number for k in inputs))
        before = list(laid)
        for text, expected, own in LAID:
            net.lay(read(text), names)
        self.assertEqual(net.nodes(), before)

    def test_names_have_their_known_nodes(self):
        net, names = net_of_tables()
        names["v"] = net.lay(read("(once a)"), names)
        self.assertEqual(net.lay(read("v"), names), 2)
        self.assertEqual(net.lay(read("(pour v a)"), names), 3)
        self.assertEqual(net.nodes()[3], ("pour", (), (2, 0)))
        # the text of v put in its place comes to the same nodes
        self.assertEqual(net.lay(read("(pour (once a) a)"), names), 3)
        self.assertEqual(net.lay(read("(once c)"), {"c": 3}), 4)
        self.assertEqual(net.nodes()[4], ("once", (), (3,)))

    def test_unlike_besides_are_unlike_nodes(self):
        net, names = net_of_tables()
        texts = ["(first a 1 by order +0)", "(first a 1 by order -0)", "(first a 2 by order +0)", "(sum a #0 by)",
                 "(sum a #1 by)", "(least a #0 by)", "(most a #0 by)", "(join a b)", "(left a b)", "(notin a b)",
                 "(cols a 1)", "(cols a #1)", "(cols a 0)", "(cols a #0)", "(pour a a)", "(both a a)"]
        self.assertEqual([net.lay(read(text), names) for text in texts], list(range(2, 2 + len(texts))))

    def test_tables_laid_between_views(self):
        net, names = net_of_tables()
        net.lay(read("(once a)"), names)
        self.assertEqual(net.table("c", 1), 3)
        self.assertEqual(net.lay(read("(once c)"), {"c": 3}), 4)
        self.assertEqual(net.nodes()[3:], [("table", ("c", 1), ()), ("once", (), (3,))])

    def test_widths_by_chance(self):
        maker = Maker(27)
        widths = {"a": 2, "b": 3}
        net, names = net_of_tables()
        tried = 0
        while tried < 200:
            view = maker.view(widths, 3, 5)[0]
            if size(view, {"a": 1, "b": 1}) <= 200:
                tried += 1
                own = net.lay(view, names)
                self.assertEqual(net.width(own), look(view, widths))
        laid = net.nodes()
        self.assertEqual(len(set(laid)), len(laid))
        for number, (word, besides, inputs) in enumerate(laid):
            self.assertTrue(all(k < number for k in inputs))
            if word == "left":
                self.assertEqual(besides[1], net.width(inputs[1]))


class TestNothingIsShared(unittest.TestCase):
    def test_what_is_handed_in_stays_and_what_is_given_is_new(self):
        for text, expected, own in LAID:
            net, names = net_of_tables()
            kept = copy.deepcopy(names)
            net.lay(read(text), names)
            self.assertEqual(names, kept)
            names.clear()
            given = net.nodes()
            given.clear()
            self.assertEqual(net.nodes(), [A, B] + expected)
            given = net.nodes()
            net.table("more", 1)
            self.assertEqual(given, [A, B] + expected)

    def test_two_nets_know_nothing_of_one_another(self):
        one, names = net_of_tables()
        other = Net()
        one.lay(read("(once a)"), names)
        self.assertEqual(other.nodes(), [])


class TestInterface(unittest.TestCase):
    def test_names_and_arguments(self):
        self.assertEqual(list(inspect.signature(nodes.needs_of).parameters), ["node"])
        self.assertEqual(list(inspect.signature(Net).parameters), [])
        for name, arguments in {"table": ["name", "width"], "lay": ["V", "names"], "width": ["k"], "nodes": []}.items():
            self.assertEqual(list(inspect.signature(getattr(Net, name)).parameters), ["self"] + arguments)


if __name__ == "__main__":
    unittest.main()
