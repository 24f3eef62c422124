"""Points 31 to 35: the keeper."""

import copy
import inspect
import unittest

from viewkeep import errors
from viewkeep.errors import (NoChange, NoCount, NoName, NoPlace, NoRow, NoText, NoWidth, Short, TooLarge, Twice, Unlike,
                             ViewError, Wide)
from viewkeep.keeper import Keeper, again

ALL = [errors.NoName, errors.NoPlace, errors.Unlike, errors.Wide, errors.Twice, errors.NoText, errors.TooLarge,
       errors.NoWidth, errors.NoRow, errors.NoCount, errors.Short, errors.NoChange]
NO_NAMES = ["", "A", "abcdefghi", "a1", "a b", " a", "a ", "#0", "(once a)", "\u00e9", None, 0, 1, True, 1.5, b"a", [],
            ["a"], ("a",), ("name", "a"), {}, {"a": 1}, {"a"}, object(), str]
NO_WIDTHS = [0, 13, -1, 100, 10 ** 40, True, False, None, "2", "", 2.0, 1.5, [2], (2,), {}, {2}, b"2", object(), int]
NO_TEXTS = ["", " ", "(once a) ", "(once  a)", "(once)", "(onc a)", "(once a", "A", "(cols a #12)", "(cols a 01)",
            "a" * 2001, None, 0, 1, True, 1.5, b"a", [], ["a"], ("name", "a"), {}, {"a"}, object()]
NO_ROWS = [(), (1,), (1, 2, 3), (1, True), (False, 1), (1, "2"), (1, 2.0), ((1,), 2), [1, 2], "12", None, 1, True, {},
           {1: 1, 2: 2}, {1, 2}, ([], 1), (1, {}), b"12", object(), (10 ** 30, 1), (1, -10 ** 30), (1, 10 ** 3000)]
NO_COUNTS = [0, True, False, None, "1", 1.0, [1], (1,), {}, {1}, b"1", object(), 10 ** 18, -10 ** 18, 10 ** 3000]


def state(keeper):
    """All that can be asked of a keeper."""
    names = [entry[1] for entry in keeper.kept()]
    return (keeper.kept(), keeper.depth(), keeper.nodes(), [keeper.memory(k) for k in range(len(keeper.nodes()))],
            [(keeper.ask(name), keeper.told(name), keeper.plainly(name), keeper.width(name), keeper.size(name),
              keeper.node(name)) for name in names])


class KeeperCase(unittest.TestCase):
    def refused(self, refusal, keeper, method, *arguments):
        before = copy.deepcopy(state(keeper))
        with self.subTest(method=method, arguments=repr(arguments)[:200]):
            with self.assertRaises(ViewError) as taken:
                getattr(keeper, method)(*arguments)
            self.assertEqual([other for other in ALL if isinstance(taken.exception, other)], [refusal])
            self.assertEqual(state(keeper), before)

    def new_keeper(self):
        """Tables a, two wide, and c, one wide; a view v; one pour."""
        keeper = Keeper()
        keeper.table("a", 2)
        keeper.table("c", 1)
        keeper.view("v", "(count a by #0)")
        keeper.pour([("a", (1, 10), 2), ("a", (2, None), 1), ("c", (1,), 5)])
        return keeper


class TestMaking(KeeperCase):
    def test_a_new_keeper_has_nothing(self):
        keeper = Keeper()
        self.assertEqual((keeper.kept(), keeper.depth(), keeper.nodes()), ([], 0, []))

    def test_tables_of_each_width(self):
        keeper = Keeper()
        for width in range(1, 13):
            name = "abcdefghijkl"[width - 1]
            self.assertIsNone(keeper.table(name, width))
            self.assertEqual((keeper.width(name), keeper.size(name), keeper.node(name)), (width, 1, width - 1))
            self.assertEqual((keeper.ask(name), keeper.told(name), keeper.plainly(name)), ([], [], []))
            self.assertEqual(keeper.memory(width - 1), [])

    def test_a_view_is_there_with_its_rows_at_once(self):
        keeper = self.new_keeper()
        self.assertIsNone(keeper.view("w", "(sum a #1 by)"))
        self.assertEqual(keeper.ask("w"), [((20,), 1)])
        self.assertEqual(keeper.told("w"), [])
        self.assertEqual(keeper.plainly("w"), [((20,), 1)])
        self.assertEqual((keeper.width("w"), keeper.size("w"), keeper.node("w")), (1, 2, 3))

    def test_views_of_views(self):
        keeper = self.new_keeper()
        keeper.view("w", "(sum v #1 by)")
        keeper.view("x", "(join w v)")
        self.assertEqual(keeper.size("v"), 3)
        self.assertEqual(keeper.size("w"), 1 + 3)
        self.assertEqual(keeper.size("x"), 1 + 4 + 3)
        self.assertEqual(keeper.width("x"), 3)
        self.assertEqual(keeper.ask("x"), [((3, 1, 2), 1), ((3, 2, 1), 1)])
        self.assertEqual(keeper.plainly("x"), keeper.ask("x"))

    def test_a_view_may_be_a_name_alone(self):
        keeper = self.new_keeper()
        keeper.view("w", "a")
        keeper.view("x", "w")
        keeper.view("y", "v")
        self.assertEqual((keeper.node("w"), keeper.node("x"), keeper.node("y")), (0, 0, keeper.node("v")))
        self.assertEqual((keeper.size("x"), keeper.size("y")), (1, 3))
        self.assertEqual(keeper.told("w"), [])
        keeper.pour([("a", (5, 5), 1)])
        self.assertEqual(keeper.ask("x"), keeper.ask("a"))
        self.assertEqual(keeper.told("x"), [((5, 5), 1)])
        self.assertEqual(keeper.plainly("x"), keeper.ask("a"))

    def test_tables_refused(self):
        keeper = self.new_keeper()
        for name in NO_NAMES:
            self.refused(NoName, keeper, "table", name, 1)
            self.refused(NoName, keeper, "table", name, 0)
        for name in ("a", "c", "v"):
            self.refused(Twice, keeper, "table", name, 1)
            self.refused(Twice, keeper, "table", name, "no width")
        for width in NO_WIDTHS:
            self.refused(NoWidth, keeper, "table", "w", width)
        keeper.table("w", 12)

    def test_views_refused(self):
        keeper = self.new_keeper()
        for name in NO_NAMES:
            self.refused(NoName, keeper, "view", name, "a")
            self.refused(NoName, keeper, "view", name, None)
        for name in ("a", "c", "v"):
            self.refused(Twice, keeper, "view", name, "a")
            self.refused(Twice, keeper, "view", name, "(lost")
        for text in NO_TEXTS:
            self.refused(NoText, keeper, "view", "w", text)
        for text, refusal in [("w", NoName), ("lost", NoName), ("(join lost c #5=#5)", NoName),
                              ("(rounds a 1 a a)", Twice),
                              ("(rounds v 1 lost a)", Twice), ("(cols a #2)", NoPlace), ("(cols v #2)", NoPlace),
                              ("(pour a c)", Unlike), ("(rounds x 1 a c)", Unlike),
                              ("(count (join a a) by #0 #0 #0 #0 #0 #0 #0 #0 #0 #0 #0 #0)", Wide),
                              ("(join (cols a 1 1 1 1 1 1 1 1 1 1 1) a)", Wide)]:
            self.refused(refusal, keeper, "view", "w", text)
        keeper.view("w", "(rounds x 1 a a)")

    def test_views_too_large(self):
        keeper = Keeper()
        keeper.table("a", 1)
        keeper.view("b", "(rounds x 6 a (cols a (plus #0 (plus #0 #0))))")
        self.assertEqual(keeper.size("b"), 1 + 6 * (2 + 7))
        keeper.view("d", "(pour b (pour b b))")
        self.assertEqual(keeper.size("d"), 2 + 3 * 55)
        keeper.view("e", "(pour d (cols a #0))")
        self.assertEqual(keeper.size("e"), 1 + 167 + 3)
        keeper.view("g", "(join e a" + " #0=#0" * 12 + ")")
        self.assertEqual(keeper.size("g"), 1 + 171 + 1 + 12)
        keeper.view("h", "(first g 1 by" + " #0" * 12 + " order +0 +0)")
        self.assertEqual(keeper.size("h"), 200)
        self.refused(TooLarge, keeper, "view", "i", "(once h)")
        self.refused(TooLarge, keeper, "view", "i", "(pour e e)")
        self.refused(TooLarge, keeper, "view", "i", "(first g 1 by" + " #0" * 12 + " order +0 +0 -1)")
        # other faults come ahead of the size
        self.refused(NoPlace, keeper, "view", "i", "(sieve h (same #0 #2))")
        self.refused(Wide, keeper, "view", "i", "(count (once h) by" + " #0" * 12 + ")")
        self.refused(NoName, keeper, "view", "i", "(pour h i)")
        self.refused(Twice, keeper, "view", "h", "(once h)")
        keeper.view("i", "h")
        self.assertEqual(keeper.size("i"), 200)

    def test_a_name_of_rounds_may_become_a_tables_later(self):
        keeper = Keeper()
        keeper.table("a", 1)
        keeper.view("v", "(left a (rounds x 2 a (cols x (plus #0 1))) #0=#0)")
        keeper.table("x", 2)
        keeper.table("y", 2)
        keeper.view("u", "(join v x #0=#0)")
        keeper.pour([("a", (1,), 1), ("a", (3,), 2), ("x", (1, 7), 1)])
        self.assertEqual(keeper.ask("v"), [((1, 1), 1), ((3, 3), 2)])
        self.assertEqual(keeper.ask("u"), [((1, 1, 1, 7), 1)])
        for name in "avxyu":
            self.assertEqual(keeper.plainly(name), keeper.ask(name))
        other = again(keeper.kept())
        self.assertEqual(other.kept(), keeper.kept())
        for name in "avxyu":
            self.assertEqual(other.plainly(name), keeper.ask(name))
        self.refused(Twice, keeper, "view", "z", "(rounds x 2 a x)")

    def test_a_name_of_rounds_may_become_a_views_later(self):
        keeper = Keeper()
        keeper.table("a", 1)
        keeper.table("b", 2)
        keeper.view("v", "(rounds x 2 a (rounds y 1 a (pour x y)))")
        keeper.view("x", "(once b)")
        keeper.view("y", "(count x by #1)")
        keeper.pour([("a", (1,), 2), ("b", (5, 6), 2)])
        for name in "vxy":
            self.assertEqual(keeper.plainly(name), keeper.ask(name))
        self.assertEqual(keeper.ask("v"), [((1,), 1)])
        self.assertEqual(again(keeper.kept()).plainly("v"), [((1,), 1)])

    def test_very_many_views_one_of_the_other(self):
        keeper = Keeper()
        keeper.table("a", 1)
        names = ["a"] + [one + two + three for one in "pqrstuvwxy" for two in "bcdefghijk"
                         for three in "abcdefghijklmnop"]
        for ahead, name in zip(names, names[1:]):
            keeper.view(name, ahead)
        keeper.pour([("a", (4,), 1)])
        self.assertEqual(len(names), 1601)
        self.assertEqual((keeper.ask(names[-1]), keeper.told(names[-1])), ([((4,), 1)], [((4,), 1)]))
        self.assertEqual(keeper.plainly(names[-1]), [((4,), 1)])
        self.assertEqual((len(keeper.nodes()), keeper.size(names[-1])), (1, 1))
        self.assertEqual(again(keeper.kept()).kept(), keeper.kept())


class TestPouring(KeeperCase):
    def test_counts_are_added(self):
        keeper = self.new_keeper()
        self.assertEqual(keeper.ask("a"), [((1, 10), 2), ((2, None), 1)])
        self.assertEqual(keeper.told("a"), [((1, 10), 2), ((2, None), 1)])
        self.assertIsNone(keeper.pour([("a", (1, 10), -1), ("a", (3, 3), 1), ("c", (1,), 1)]))
        self.assertEqual(keeper.ask("a"), [((1, 10), 1), ((2, None), 1), ((3, 3), 1)])
        self.assertEqual(keeper.told("a"), [((1, 10), -1), ((3, 3), 1)])
        self.assertEqual(keeper.ask("c"), [((1,), 6)])
        self.assertEqual(keeper.told("v"), [((1, 1), 1), ((1, 2), -1), ((3, 1), 1)])
        self.assertEqual(keeper.depth(), 2)

    def test_what_counts_is_the_sum_for_each_row(self):
        keeper = self.new_keeper()
        keeper.pour([("c", (9,), -3), ("c", (9,), 2), ("c", (1,), -6), ("c", (9,), 2), ("c", (1,), 3)])
        self.assertEqual(keeper.told("c"), [((1,), -3), ((9,), 1)])
        self.assertEqual(keeper.ask("c"), [((1,), 2), ((9,), 1)])
        keeper.pour([("c", (9,), -7), ("c", (9,), 7)])
        self.assertEqual((keeper.told("c"), keeper.depth()), ([], 3))

    def test_an_empty_list_is_a_deed_too(self):
        keeper = self.new_keeper()
        self.assertIsNone(keeper.pour([]))
        self.assertEqual((keeper.told("a"), keeper.told("v"), keeper.depth()), ([], [], 2))
        keeper.back()
        self.assertEqual(keeper.ask("a"), [((1, 10), 2), ((2, None), 1)])
        self.assertEqual((keeper.told("a"), keeper.depth()), ([], 1))

    def test_numbers_to_thirty_figures_and_counts_to_eighteen(self):
        keeper = self.new_keeper()
        most, many = 10 ** 30 - 1, 10 ** 18 - 1
        keeper.pour([("a", (most, -most), many), ("a", (most, -most), many), ("c", (-most,), many)])
        keeper.pour([("c", (-most,), -many)])
        self.assertEqual(keeper.ask("a")[-1], ((most, -most), 2 * many))
        self.assertEqual(keeper.ask("c"), [((1,), 5)])

    def test_refused(self):
        keeper = self.new_keeper()
        for name in NO_NAMES + ["v", "lost", "b"]:
            self.refused(NoName, keeper, "pour", [(name, (1, 1), 1)])
        for row in NO_ROWS:
            self.refused(NoRow, keeper, "pour", [("a", row, 1)])
        for count in NO_COUNTS:
            self.refused(NoCount, keeper, "pour", [("a", (1, 1), count)])
        for changes in [[("a", (1, 10), -3)], [("a", (7, 7), -1)], [("c", (1,), 1), ("c", (1,), -7)],
                        [("a", (1, 10), -2), ("a", (1, 10), -1)], [("a", (5, 5), 3), ("c", (1,), -6)],
                        [("a", (2, None), -2)], [("a", (None, 2), -1)]]:
            self.refused(Short, keeper, "pour", changes)

    def test_each_tuple_is_looked_through_whole_ahead_of_the_next(self):
        keeper = self.new_keeper()
        good, short = ("a", (1, 10), 1), ("a", (9, 9), -1)
        bad = [(NoName, ("lost", None, None)), (NoRow, ("a", (1,), 0)), (NoCount, ("a", (1, 1), 0)),
               (NoName, ("v", (1, 1), 0)), (NoRow, ("c", (1, 1), True)), (NoCount, ("c", (1,), "1"))]
        for refusal, change in bad:
            self.refused(refusal, keeper, "pour", [change])
            self.refused(refusal, keeper, "pour", [good, change])
            self.refused(refusal, keeper, "pour", [change, good])
            self.refused(refusal, keeper, "pour", [short, change])
            self.refused(refusal, keeper, "pour", [short, good, change, good])
            for other, second in bad:
                self.refused(refusal, keeper, "pour", [change, second])
                self.refused(refusal, keeper, "pour", [good, change, short, second])

    def test_of_one_tuple_the_name_comes_first_then_the_row(self):
        keeper = self.new_keeper()
        self.refused(NoName, keeper, "pour", [("lost", (1,), 0)])
        self.refused(NoName, keeper, "pour", [(None, None, None)])
        self.refused(NoRow, keeper, "pour", [("a", (1,), 0)])
        self.refused(NoRow, keeper, "pour", [("a", (10 ** 30, 1), 10 ** 18)])

    def test_what_is_taken_in_total_counts_not_the_order(self):
        keeper = self.new_keeper()
        keeper.pour([("c", (1,), -6), ("c", (1,), 1)])
        self.assertEqual(keeper.ask("c"), [])
        keeper.pour([("c", (1,), -5), ("c", (1,), 5)])
        self.assertEqual(keeper.ask("c"), [])


class TestAsking(KeeperCase):
    def test_no_names_are_refused(self):
        keeper = self.new_keeper()
        for name in NO_NAMES + ["lost", "b", "x"]:
            for method in ("ask", "told", "plainly", "width", "size", "node"):
                self.refused(NoName, keeper, method, name)

    def test_a_name_of_rounds_is_none_of_the_keepers(self):
        keeper = self.new_keeper()
        keeper.view("w", "(rounds x 2 a x)")
        for method in ("ask", "told", "plainly", "width", "size", "node"):
            self.refused(NoName, keeper, method, "x")

    def test_told_goes_by_the_last_deed(self):
        keeper = self.new_keeper()
        self.assertEqual(keeper.told("v"), [((1, 2), 1), ((2, 1), 1)])
        keeper.pour([("c", (2,), 1)])
        self.assertEqual((keeper.told("a"), keeper.told("v"), keeper.told("c")), ([], [], [((2,), 1)]))
        with self.assertRaises(Short):
            keeper.pour([("a", (0, 0), -1)])
        self.assertEqual(keeper.told("c"), [((2,), 1)])
        keeper.back()
        self.assertEqual((keeper.told("a"), keeper.told("v"), keeper.told("c")), ([], [], [((2,), -1)]))
        keeper.back()
        self.assertEqual(keeper.told("v"), [((1, 2), -1), ((2, 1), -1)])
        with self.assertRaises(NoChange):
            keeper.back()
        self.assertEqual(keeper.told("v"), [((1, 2), -1), ((2, 1), -1)])

    def test_told_of_what_was_made_since_the_last_deed(self):
        keeper = self.new_keeper()
        # both share the nodes of what told a change already
        keeper.view("w", "(count a by #0)")
        keeper.view("x", "a")
        keeper.view("y", "(once v)")
        keeper.table("z", 1)
        self.assertEqual(keeper.node("w"), keeper.node("v"))
        for name in "wxyz":
            self.assertEqual(keeper.told(name), [])
        self.assertEqual(keeper.told("v"), [((1, 2), 1), ((2, 1), 1)])
        keeper.pour([("a", (2, 5), 1)])
        for name in "wv":
            self.assertEqual(keeper.told(name), [((2, 1), -1), ((2, 2), 1)])
        self.assertEqual(keeper.told("x"), [((2, 5), 1)])
        self.assertEqual(keeper.told("y"), [((2, 1), -1), ((2, 2), 1)])
        self.assertEqual(keeper.told("z"), [])

    def test_nodes_and_memory(self):
        keeper = self.new_keeper()
        self.assertEqual(keeper.nodes(), [("table", ("a", 2), ()), ("table", ("c", 1), ()), ("count", ((0,),), (0,))])
        self.assertEqual([keeper.memory(k) for k in range(3)], [[], [], [[((1,), 2), ((2,), 1)]]])
        self.assertEqual([keeper.node(name) for name in "acv"], [0, 1, 2])


class TestTakingBack(KeeperCase):
    def test_back_down_to_nothing(self):
        keeper = Keeper()
        self.refused(NoChange, keeper, "back")
        keeper.table("a", 1)
        keeper.view("v", "(sum a #0 by)")
        self.refused(NoChange, keeper, "back")
        states = [keeper.ask("v")]
        for number in range(1, 6):
            keeper.pour([("a", (number,), number), ("a", (1,), 1)])
            states.append(keeper.ask("v"))
        for number in range(5, 0, -1):
            self.assertEqual((keeper.ask("v"), keeper.depth()), (states[number], number))
            self.assertIsNone(keeper.back())
            self.assertEqual(keeper.plainly("v"), keeper.ask("v"))
        self.assertEqual((keeper.ask("v"), keeper.ask("a"), keeper.depth(), keeper.memory(1)), ([], [], 0, [[], []]))
        self.refused(NoChange, keeper, "back")

    def test_a_taking_back_is_not_itself_taken_back(self):
        keeper = self.new_keeper()
        keeper.pour([("c", (7,), 1)])
        keeper.back()
        keeper.back()
        self.assertEqual((keeper.ask("c"), keeper.depth()), ([], 0))
        keeper.pour([("c", (8,), 2)])
        self.assertEqual(keeper.depth(), 1)
        keeper.back()
        self.assertEqual(keeper.ask("c"), [])
        self.refused(NoChange, keeper, "back")

    def test_pours_refused_are_not_taken_back(self):
        keeper = self.new_keeper()
        keeper.pour([("c", (7,), 1)])
        with self.assertRaises(Short):
            keeper.pour([("c", (7,), -2)])
        keeper.back()
        self.assertEqual(keeper.ask("c"), [((1,), 5)])

    def test_tables_and_views_made_meanwhile_stay(self):
        keeper = self.new_keeper()
        keeper.view("w", "(join a c #0=#0)")
        keeper.table("d", 1)
        keeper.pour([("d", (1,), 1)])
        keeper.view("x", "(pour c d)")
        self.assertEqual(keeper.ask("x"), [((1,), 6)])
        keeper.back()
        self.assertEqual((keeper.ask("x"), keeper.told("x"), keeper.ask("d")), ([((1,), 5)], [((1,), -1)], []))
        keeper.back()
        self.assertEqual([keeper.ask(name) for name in "acdvwx"], [[]] * 6)
        self.assertEqual(keeper.told("w"), [((1, 10, 1), -10)])
        self.assertEqual([entry[1] for entry in keeper.kept()], ["a", "c", "v", "w", "d", "x"])
        for name in "acdvwx":
            self.assertEqual(keeper.plainly(name), keeper.ask(name))

    def test_the_changes_that_were_handed_in_may_change(self):
        keeper = Keeper()
        keeper.table("a", 1)
        changes = [("a", (1,), 2)]
        keeper.pour(changes)
        changes[0] = ("a", (1,), 1)
        changes.append(("a", (5,), 5))
        self.assertEqual(keeper.ask("a"), [((1,), 2)])
        keeper.back()
        self.assertEqual(keeper.ask("a"), [])


class TestKept(KeeperCase):
    def test_kept_in_the_order_of_making(self):
        keeper = self.new_keeper()
        keeper.table("b", 3)
        keeper.view("u", "(once b)")
        self.assertEqual(keeper.kept(), [("table", "a", 2, [((1, 10), 2), ((2, None), 1)]),
                                         ("table", "c", 1, [((1,), 5)]),
                                         ("view", "v", "(count a by #0)"), ("table", "b", 3, []),
                                         ("view", "u", "(once b)")])

    def test_a_keeper_comes_up_again(self):
        keeper = self.new_keeper()
        keeper.view("w", "(left (once a) c #0=#0)")
        keeper.table("b", 2)
        keeper.view("x", "(rounds y 2 b (pour a y))")
        keeper.pour([("b", (None, 3), 2), ("a", (1, 10), -1)])
        other = again(keeper.kept())
        self.assertIsInstance(other, Keeper)
        self.assertEqual(other.kept(), keeper.kept())
        self.assertEqual(other.nodes(), keeper.nodes())
        for k in range(len(keeper.nodes())):
            self.assertEqual(other.memory(k), keeper.memory(k))
        for name in "acvwbx":
            self.assertEqual(other.told(name), [])
            for method in ("ask", "plainly", "width", "size", "node"):
                self.assertEqual(getattr(other, method)(name), getattr(keeper, method)(name))
        self.assertEqual(other.depth(), 0)
        self.refused(NoChange, other, "back")
        changes = [("a", (1, 10), -1), ("c", (1,), 1), ("b", (4, 4), 1)]
        keeper.pour(changes)
        other.pour(changes)
        for name in "acvwbx":
            self.assertEqual((other.ask(name), other.told(name)), (keeper.ask(name), keeper.told(name)))
        other.back()
        self.refused(NoChange, other, "back")
        self.refused(Twice, other, "table", "x", 1)
        other.table("y", 1)

    def test_counts_of_more_figures_than_one_pour_lets(self):
        keeper = Keeper()
        keeper.table("a", 1)
        keeper.view("v", "(sum a #0 by)")
        most, many = 10 ** 30 - 1, 10 ** 18 - 1
        keeper.pour([("a", (most,), many)] * 20)
        other = again(keeper.kept())
        self.assertEqual(other.ask("a"), [((most,), 20 * many)])
        self.assertEqual(other.ask("v"), [((most * 20 * many,), 1)])
        huge = again([("table", "a", 1, [((10 ** 1000,), 10 ** 2000)]), ("view", "v", "(sum a #0 by)")])
        self.assertEqual(huge.ask("v"), [((10 ** 3000,), 1)])
        self.assertEqual(huge.plainly("v"), [((10 ** 3000,), 1)])
        huge.pour([("a", (5,), 1)])
        self.assertEqual(huge.told("v"), [((10 ** 3000,), -1), ((10 ** 3000 + 5,), 1)])

    def test_of_nothing(self):
        self.assertEqual(again([]).kept(), [])

    def test_the_list_is_the_askers_own(self):
        keeper = self.new_keeper()
        kept = keeper.kept()
        before = copy.deepcopy(kept)
        other = again(kept)
        self.assertEqual(kept, before)
        for entry in kept:
            if entry[0] == "table":
                entry[3].clear()
        kept.clear()
        self.assertEqual((keeper.kept(), other.kept()), (before, before))
        first = keeper.kept()
        keeper.pour([("a", (1, 10), 1)])
        self.assertEqual(first, before)
        self.assertEqual(other.kept(), before)


class TestNothingIsShared(KeeperCase):
    def test_what_is_given_is_the_askers_own(self):
        keeper = self.new_keeper()
        before = copy.deepcopy(state(keeper))
        for name in "acv":
            for method in ("ask", "told", "plainly"):
                getattr(keeper, method)(name).clear()
        keeper.nodes().clear()
        for k in range(3):
            for thing in keeper.memory(k):
                thing.clear()
            keeper.memory(k).append("more")
        self.assertEqual(state(keeper), before)
        given = state(keeper)
        keeper.pour([("a", (4, 4), 4)])
        keeper.view("w", "(once a)")
        self.assertEqual(given, before)

    def test_what_is_handed_in_stays(self):
        keeper = self.new_keeper()
        for changes in [[("a", (1, 10), 1), ("a", (1, 10), -1)], [("a", (0, 0), -1)], [("a", [1, 2], 1)],
                        [("a", (1, 1), [])]]:
            kept = copy.deepcopy(changes)
            try:
                keeper.pour(changes)
            except ViewError:
                pass
            self.assertEqual(changes, kept)


class TestInterface(unittest.TestCase):
    def test_names_and_arguments(self):
        self.assertEqual(list(inspect.signature(Keeper).parameters), [])
        self.assertEqual(list(inspect.signature(again).parameters), ["kept"])
        for name, arguments in {"table": ["name", "width"], "view": ["name", "text"], "pour": ["changes"], "back": [],
                                "ask": ["name"], "told": ["name"], "plainly": ["name"], "width": ["name"],
                                "size": ["name"], "depth": [], "nodes": [], "memory": ["k"], "node": ["name"],
                                "kept": []}.items():
            self.assertEqual(list(inspect.signature(getattr(Keeper, name)).parameters), ["self"] + arguments)


if __name__ == "__main__":
    unittest.main()
