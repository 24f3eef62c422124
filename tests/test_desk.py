"""Points 36 and 37: the desk."""

import inspect
import unittest

from viewkeep import errors
from viewkeep.desk import Desk
from viewkeep.errors import (NoChange, NoCount, NoName, NoPlace, NoRow, NoText, NoWidth, Short, TooLarge, Twice, Unlike,
                             ViewError, Wide)

ALL = [errors.NoName, errors.NoPlace, errors.Unlike, errors.Wide, errors.Twice, errors.NoText, errors.TooLarge,
       errors.NoWidth, errors.NoRow, errors.NoCount, errors.Short, errors.NoChange]
THINGS = [None, 0, 1, True, 1.5, b"back", ["back"], ("back",), {"back": 1}, [], (), {}, object(), str]
NONE = [
    # no row's word, or words too many or too few
    "", " ", "  ", "hello", "Back", "BACK", "back ", " back", "back a", "backs", "depth ", "depth a", "parts a",
    "parts ",
    "again ", "again a", " depth", "ok", "none", "kept", "node a", "nodes", "memory 0", "plainly a",
    "table", "table a", "table a 2 3", "table a 2 ", "table  a 2", " table a 2", "table a  2", "Table x 2", "table ",
    "view", "view w", "view ", "views w a", "ask", "ask a b", "ask a ", "ask  a", "ask  ", "told", "told a b",
    "told a ",
    "plain", "plain a b", "plain  a", "width", "width a b", "width a ", "size", "size a b", "size  a", "ask\ta",
    "back\n",
    "pour", "a", "(once a)", "ask;", ";", "pours a 1,2*1",
    # items that are none
    "pour ", "pour  ", "pour a", "pour a ", "pour none", "pour a none", "pour 1,2*1", "pour a 1,2", "pour a *1",
    "pour a 1,2*", "pour a 1,2*1;", "pour a 1,2*1; ", "pour a 1,2*1 ", "pour  a 1,2*1", "pour a  1,2*1",
    "pour a 1,2*1;c 1*1", "pour a 1,2*1 ; c 1*1", "pour a 1,2*1;  c 1*1", "pour a 1,2*1, c 1*1", "pour a 1,2*1 c 1*1",
    "pour a 1,2*1; c", "pour a 1,2*1; c ", "pour a 1,2*1; 1*1", "pour a 1,2*1;; c 1*1", "pour a 1, 2*1",
    "pour a 1 ,2*1",
    "pour a 1,2 *1", "pour a 1,2* 1", "pour a 1,,2*1", "pour a ,1*1", "pour a 1,*1", "pour a ,*1", "pour a 1,2**1",
    "pour a 1,2*1*1", "pour a 1;2*1", "pour a (1,2)*1", "pour a 1,2*1\n", "pour a 1,2*1.", "pour a 1.0,2*1",
    # numbers written otherwise
    "pour a 01,2*1", "pour a 1,02*1", "pour a 1,2*01", "pour a -0,2*1", "pour a 1,2*-0", "pour a 1,2*+1",
    "pour a +1,2*1",
    "pour a 1,2*00", "pour a --1,2*1", "pour a 1,2*--1", "pour a 1_0,2*1", "pour a 0x1,2*1", "pour a 1e3,2*1",
    "pour a Gap,2*1", "pour a None,2*1", "pour a gap,2*gap", "pour a gaps,2*1", "pour a -gap,2*1", "pour a #1,2*1",
    "pour a x,2*1", "pour a 1,2*x", "pour a \u0661,2*1", "pour a 1,2*\u0661", "pour a \u00b2,2*1", "pour a -,2*1",
    "pour a 1,2*-",
    # figures beyond the bounds
    "pour a " + "1" * 31 + ",2*1", "pour a -" + "1" * 31 + ",2*1", "pour a 1,2*" + "1" * 19, "pour a 1,2*-" + "1" * 19,
    "pour a 1,2*1; a " + "9" * 31 + ",2*1", "pour a 1," + "9" * 5000 + "*1", "pour a 1,2*" + "9" * 5000,
]
# Rows that would be refused by the keeper stay NoText where another part of the row is none.
READ_WHOLE = ["pour lost 1*1; a 1,2", "pour a 1*1; a x,2*1", "pour a 1,2*0; a 01,2*1", "pour a 9,9*-9; c 1*1;",
              "pour A 1*0; a 1,2*" + "1" * 19]


class DeskCase(unittest.TestCase):
    def new_desk(self):
        desk = Desk()
        for row in ["table a 2", "table c 1", "view v (count a by #0)", "pour a 1,10*2; a 2,gap*1; c 1*5"]:
            self.assertEqual(desk.say(row), "ok")
        return desk

    def state(self, desk):
        rows = ["depth", "parts"]
        for name in "acv":
            rows += [word + " " + name for word in ("ask", "told", "plain", "width", "size")]
        return [desk.say(row) for row in rows]

    def refused(self, refusal, desk, row):
        before = self.state(desk)
        with self.subTest(row=repr(row)[:200]):
            with self.assertRaises(ViewError) as taken:
                desk.say(row)
            self.assertEqual([other for other in ALL if isinstance(taken.exception, other)], [refusal])
            self.assertEqual(self.state(desk), before)


class TestRows(DeskCase):
    def check_talk(self, desk, talk):
        for row, answer in talk:
            with self.subTest(row=row):
                self.assertEqual(desk.say(row), answer)

    def test_each_row(self):
        self.check_talk(Desk(), [
            ("depth", "0"), ("parts", "0"), ("table a 3", "ok"), ("parts", "1"), ("ask a", "none"), ("told a", "none"),
            ("plain a", "none"), ("width a", "3"), ("size a", "1"), ("pour a 4,0,0*1; a 1,gap,-3*2", "ok"),
            ("ask a", "1,gap,-3*2; 4,0,0*1"), ("told a", "1,gap,-3*2; 4,0,0*1"), ("plain a", "1,gap,-3*2; 4,0,0*1"),
            ("depth", "1"), ("view v (sum a #0 by #1)", "ok"), ("parts", "2"), ("ask v", "gap,2*1; 0,4*1"),
            ("told v", "none"), ("width v", "2"), ("size v", "3"), ("pour a 1,gap,-3*-2", "ok"),
            ("told v", "gap,2*-1"), ("plain v", "0,4*1"), ("told a", "1,gap,-3*-2"), ("back", "ok"),
            ("told v", "gap,2*1"), ("ask v", "gap,2*1; 0,4*1"), ("depth", "1"), ("back", "ok"), ("ask a", "none"),
            ("depth", "0")])

    def test_a_row_alone(self):
        self.check_talk(Desk(), [("table a 1", "ok"), ("pour a gap*7", "ok"), ("ask a", "gap*7"),
                                 ("pour a gap*-7", "ok"), ("ask a", "none"), ("told a", "gap*-7")])

    def test_the_text_of_a_view_is_all_that_follows(self):
        desk = self.new_desk()
        self.check_talk(desk, [("view w (join (once a) c #0=#0)", "ok"), ("ask w", "1,10,1*5"),
                               ("view x w", "ok"), ("ask x", "1,10,1*5"),
                               ("view y (sieve a (same #1 gap))", "ok"), ("ask y", "2,gap*1")])

    def test_numbers_of_many_figures(self):
        most, many = "9" * 30, "9" * 18
        self.check_talk(Desk(), [
            ("table a 2", "ok"), (f"pour a {most},-{most}*{many}", "ok"), ("ask a", f"{most},-{most}*{many}"),
            (f"pour a {most},-{most}*-{many}", "ok"), ("ask a", "none"),
            (f"pour a {most},1*{many}; a {most},1*{many}", "ok"), ("view v (sum a #0 by)", "ok"),
            ("ask v", str(int(most) * int(many) * 2) + "*1")])

    def test_counts_below_nought_are_poured(self):
        desk = self.new_desk()
        self.check_talk(desk, [("pour c 1*-2; c 3*1", "ok"), ("told c", "1*-2; 3*1"), ("ask c", "1*3; 3*1"),
                               ("pour c 1*-9; c 1*6", "ok"), ("ask c", "3*1")])

    def test_again(self):
        desk = self.new_desk()
        desk.say("view w (rounds x 2 a x)")
        before = [desk.say(row) for row in ["ask a", "ask c", "ask v", "ask w", "parts", "size w"]]
        self.check_talk(desk, [("again", "ok"), ("depth", "0"), ("told a", "none"), ("told v", "none")])
        self.assertEqual([desk.say(row) for row in ["ask a", "ask c", "ask v", "ask w", "parts", "size w"]], before)
        self.refused(NoChange, desk, "back")
        self.check_talk(desk, [("pour a 1,10*-2", "ok"), ("told v", "1,2*-1"), ("depth", "1"), ("again", "ok"),
                               ("depth", "0"), ("ask v", "2,1*1"), ("table x 1", "ok")])
        self.refused(Twice, desk, "table w 1")
        self.check_talk(Desk(), [("again", "ok"), ("parts", "0")])

    def test_two_desks_know_nothing_of_one_another(self):
        one, other = Desk(), Desk()
        one.say("table a 1")
        self.assertEqual(other.say("parts"), "0")
        self.assertEqual(other.say("table a 2"), "ok")
        self.assertEqual(one.say("width a"), "1")


class TestRefusals(DeskCase):
    def test_what_is_no_text(self):
        desk = self.new_desk()
        for thing in THINGS:
            self.refused(NoText, desk, thing)

    def test_rows_that_are_none(self):
        desk = self.new_desk()
        for row in NONE:
            self.refused(NoText, desk, row)

    def test_a_row_is_read_whole_first(self):
        desk = self.new_desk()
        for row in READ_WHOLE:
            self.refused(NoText, desk, row)

    def test_tables(self):
        desk = self.new_desk()
        for row in ["table A 2", "table  2", "table abcdefghi 2", "table 2 a", "table  ", "table a1 x", "table (a) 0"]:
            self.refused(NoName, desk, row)
        for row in ["table a 2", "table v 2", "table c x", "table a ", "table v 0"]:
            self.refused(Twice, desk, row)
        for width in ["0", "13", "-1", "02", "+2", "2.0", "two", "", "gap", "1e1", "\u0662", "-0", "#2", "2\n", "0x2",
                      "2;",
                      "9" * 30, "9" * 31, "9" * 5000]:
            self.refused(NoWidth, desk, "table w " + width)
        self.assertEqual(desk.say("table w 12"), "ok")

    def test_views(self):
        desk = self.new_desk()
        for row in ["view A a", "view  a", "view  ", "view 1 (lost"]:
            self.refused(NoName, desk, row)
        for row in ["view a a", "view v (lost", "view c "]:
            self.refused(Twice, desk, row)
        for row in ["view w ", "view w  a", "view w a ", "view w a a", "view w (once a", "view w (once  a)",
                    "view w (once a) ",
                    "view w A", "view w (cols a 01)", "view w " + "(once " * 31 + "a" + ")" * 31]:
            self.refused(NoText, desk, row)
        for row, refusal in [("view w lost", NoName), ("view w w", NoName), ("view w (cols a #2)", NoPlace),
                             ("view w (pour a c)", Unlike), ("view w (rounds a 1 a a)", Twice),
                             ("view w (count a by" + " #0" * 12 + ")", Wide)]:
            self.refused(refusal, desk, row)
        desk.say("view p (rounds x 6 a (first x 1 by" + " #0" * 12 + " order" + " +0" * 12 + "))")
        self.refused(TooLarge, desk, "view w (join p p)")
        self.assertEqual(desk.say("size p"), str(1 + 6 * (2 + 26)))

    def test_names(self):
        desk = self.new_desk()
        for word in ("ask", "told", "plain", "width", "size"):
            for name in ["", "A", "lost", "b", "a;", "abcdefghi", "1", "gap", "a\n"]:
                self.refused(NoName, desk, word + " " + name)

    def test_pours(self):
        desk = self.new_desk()
        for row in ["pour lost 1*1", "pour v 1,2*1", "pour A 1*1", "pour  1*1", "pour a; 1,2*1", "pour * 1,2*1",
                    "pour 1,2*1 1,2*1",
                    "pour a 1,2*1; b 1*1", "pour a 1,2*1;  1*1", "pour lost gap*0", "pour a 1,2*1; a; 1,2*1"]:
            self.refused(NoName, desk, row)
        for row in ["pour a 1*1", "pour a 1,2,3*1", "pour c 1,1*1", "pour a 1*0", "pour c 1*1; a 1*1"]:
            self.refused(NoRow, desk, row)
        for row in ["pour a 1,2*0", "pour a 1,2*1; c 1*0", "pour c gap*0"]:
            self.refused(NoCount, desk, row)
        for row in ["pour a 1,10*-3", "pour c gap*-1", "pour a 1,2*5; c 1*-6"]:
            self.refused(Short, desk, row)

    def test_taking_back(self):
        desk = self.new_desk()
        self.assertEqual(desk.say("back"), "ok")
        self.refused(NoChange, desk, "back")


class TestInterface(unittest.TestCase):
    def test_names_and_arguments(self):
        self.assertEqual(list(inspect.signature(Desk).parameters), [])
        self.assertEqual(list(inspect.signature(Desk.say).parameters), ["self", "row"])


if __name__ == "__main__":
    unittest.main()
