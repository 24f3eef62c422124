"""Points 15 and 16: views written as texts, texts read to views, what is no text of a view."""

import inspect
import unittest

from makers import Maker
from viewkeep import reader, writer
from viewkeep.errors import NoText, ViewError
from viewkeep.reader import read
from viewkeep.writer import shown

A, B = ("name", "a"), ("name", "b")
AT0, AT1 = ("at", 0), ("at", 1)
SAME = ("same", AT0, AT1)
THIRTY = 10 ** 30 - 1

TEXTS = [
    ("a", A),
    ("abcdefgh", ("name", "abcdefgh")),
    ("(sieve a (below #0 #1))", ("sieve", A, ("below", AT0, AT1))),
    ("(sieve a (same #11 gap))", ("sieve", A, ("same", ("at", 11), ("gap",)))),
    ("(sieve a (not (same #0 #1)))", ("sieve", A, ("not", SAME))),
    ("(sieve a (and (same #0 #1) (below gap -5)))", ("sieve", A, ("and", SAME, ("below", ("gap",), ("num", -5))))),
    ("(sieve a (or (same #0 #1) (same #0 #1)))", ("sieve", A, ("or", SAME, SAME))),
    ("(cols a #0)", ("cols", A, (AT0,))),
    ("(cols a #0 17 gap -1 0)", ("cols", A, (AT0, ("num", 17), ("gap",), ("num", -1), ("num", 0)))),
    ("(cols a (plus #0 #1) (minus 3 #1))", ("cols", A, (("plus", AT0, AT1), ("minus", ("num", 3), AT1)))),
    ("(cols a (times -7 #0) (times 0 #0))", ("cols", A, (("times", -7, AT0), ("times", 0, AT0)))),
    ("(cols a (part 1 #0) (rest 999999999 gap))", ("cols", A, (("part", 1, AT0), ("rest", 999999999, ("gap",))))),
    ("(cols a (if (same #0 #1) #0 (plus 1 1)))",
     ("cols", A, (("if", SAME, AT0, ("plus", ("num", 1), ("num", 1))),))),
    ("(join a b)", ("join", A, B, ())),
    ("(join a (once b) #0=#1)", ("join", A, ("once", B), ((0, 1),))),
    ("(join a b #0=#1 #11=#10)", ("join", A, B, ((0, 1), (11, 10)))),
    ("(left a b)", ("left", A, B, ())),
    ("(left a b #2=#0)", ("left", A, B, ((2, 0),))),
    ("(notin a b)", ("notin", A, B, ())),
    ("(notin a b #2=#0 #2=#0)", ("notin", A, B, ((2, 0), (2, 0)))),
    ("(pour a b)", ("pour", A, B)),
    ("(both a b)", ("both", A, B)),
    ("(either a b)", ("either", A, B)),
    ("(less a (less b a))", ("less", A, ("less", B, A))),
    ("(once a)", ("once", A)),
    ("(count a by)", ("count", A, ())),
    ("(count a by #1 #0 #1)", ("count", A, (1, 0, 1))),
    ("(sum a #3 by)", ("sum", A, 3, ())),
    ("(sum a #3 by #0)", ("sum", A, 3, (0,))),
    ("(least a #0 by #1 #2)", ("least", A, 0, (1, 2))),
    ("(most (once a) #11 by)", ("most", ("once", A), 11, ())),
    ("(first a 3 by #1 order -0)", ("first", A, 3, (1,), ((0, False),))),
    ("(first a 0 by order)", ("first", A, 0, (), ())),
    ("(first a 60 by #0 #1 order +11 -2 +2)", ("first", A, 60, (0, 1), ((11, True), (2, False), (2, True)))),
    ("(rounds x 1 a x)", ("rounds", "x", 1, A, ("name", "x"))),
    ("(rounds x 6 (once a) (pour x (once b)))",
     ("rounds", "x", 6, ("once", A), ("pour", ("name", "x"), ("once", B)))),
    # the words of the texts are names, too
    ("(count by by)", ("count", ("name", "by"), ())),
    ("(first order 1 by order)", ("first", ("name", "order"), 1, (), ())),
    ("(first by 1 by order)", ("first", ("name", "by"), 1, (), ())),
    ("(cols gap gap)", ("cols", ("name", "gap"), (("gap",),))),
    ("(sieve gap (same gap gap))", ("sieve", ("name", "gap"), ("same", ("gap",), ("gap",)))),
    ("(pour pour join)", ("pour", ("name", "pour"), ("name", "join"))),
    ("(rounds rounds 2 once by)", ("rounds", "rounds", 2, ("name", "once"), ("name", "by"))),
    ("(sum by #0 by)", ("sum", ("name", "by"), 0, ())),
]
NONE = [
    # blanks
    "", " ", "a ", " a", "  ", "( once a)", "(once a )", "(once  a)", " (once a)", "(once a) ", "(once\ta)",
    "(once a)\n", "(once\na)", "a\n", "(pour a  b)", "(pour a b )", "(join a b #0= #1)", "(join a b #0 =#1)",
    "(cols a # 0)", "(times - 1 #0)", "(oncea)", "(join a b#0=#1)", "(cols a (plus #0 #1)(gap))", "(once\u00a0a)",
    # brackets
    "(", ")", "()", "(())", "(a)", "((once a))", "(once a", "once a)", "once a", "(once a))", "(once (a))",
    "(once a)(once a)", "(once a) (once a)", "a b", "(pour a b", "(pour (once a b))", "(pour (once a b)",
    "(sieve a (same #0 #1)", "(cols a (#0))", "(cols a (gap))", "(cols a (1))", "(cols (a) #0)", "a)", "(a", ")(",
    "((a", "[once a]", "(count a (by))", "(first a (3) by order)", "(rounds (x) 2 a a)", "(first a 3 by (order))",
    "(join a b (#0=#1))", "(sum a (#0) by)", "a) b", "a)) b", "(once a)) b", "(once a)) (once b)", "(pour a)) b)",
    "(once a))) b c", "(pour (once a))) b)",
    # words and parts too many or too few
    "(once)", "(once a b)", "(sieve a)", "(sieve a (same #0 #1) (same #0 #1))", "(sieve (same #0 #1) a)", "(sieve)",
    "(cols a)", "(cols)", "(join a)", "(join)", "(join a #0=#0)", "(left a #0=#0 b)", "(pour a)", "(pour a b c)",
    "(both a)", "(either a b c)", "(less)", "(count a)", "(count by)", "(count)", "(count a #0)", "(count a #0 by)",
    "(count a by by)", "(sum a by)", "(sum a by #0)", "(sum a #0)", "(sum #0 by)", "(sum a #0 #1 by)",
    "(sum a #0 by by)", "(least a #0)", "(most #0 a by)", "(first a by order)", "(first a 3 order by)",
    "(first a 3 by)", "(first a 3 order)", "(first a 3 by order order)", "(first a 3 by by order)",
    "(first 3 a by order)", "(first a 3 by +0 order)", "(first a 3 by order #0)", "(first)", "(first a)",
    "(first a 3)", "(first a 3 #0 by order)", "(first a 3 by order by)", "(rounds x 2 a)", "(rounds x 2 a a a)",
    "(rounds 2 x a a)", "(rounds x a a)", "(rounds)", "(rounds x 2)", "(rounds xxxxxxxxx 2 a a)", "(rounds X 2 a a)",
    "(rounds 1 2 a a)", "(sieve a same)", "(sieve a #0)", "(sieve a gap)", "(sieve a 1)", "(sieve a (same #0))",
    "(sieve a (same #0 #1 #2))", "(sieve a (not #0))", "(sieve a (not))", "(sieve a (not (same #0 #1) (same #0 #1)))",
    "(sieve a (and (same #0 #1)))", "(sieve a (or))", "(sieve a (plus #0 #1))", "(sieve a (below (same #0 #1) #0))",
    "(sieve a a)", "(sieve a (once a))", "(cols a (plus #0))", "(cols a (plus #0 #1 #2))", "(cols a (times #0))",
    "(cols a (times 2))", "(cols a (times #0 2))", "(cols a (times 2 3 4))", "(cols a (part #0))",
    "(cols a (part #0 2))", "(cols a (rest 2))", "(cols a (if #0 #0 #0))", "(cols a (if (same #0 #1) #0))",
    "(cols a (if (same #0 #1) #0 #0 #0))", "(cols a (same #0 #1))", "(cols a (at 0))", "(cols a (num 1))",
    "(cols a b)", "(cols a (once a))", "(name a)", "(pour (name a) b)", "(table a)", "(unknown a b)", "(Once a)",
    "(ONCE a)", "(nota)", "(join a b #0=#1 gap)",
    # signs that stand in none
    "A", "a1", "1", "-", "#0", "gap1", "abcdefghi", "\u00e9", "a,b", "a;b", "#", "+", "(once a!)", "(once 1)",
    "(once #0)", "(cols a @0)", "(cols a #x)", "(cols a x)", "(cols a #)", "(cols a 1.0)", "(cols a 1e3)",
    "(cols a 0x1)", "(cols a +1)", "(cols a 1_0)", "(cols a #+1)", "(cols a #-1)", "(cols a #\u0661)",
    "(cols a \u0661)", "(cols a \u00b2)", "(cols a --1)", "(cols a -)", "(cols a 1-)", "(cols a Gap)",
    "(join a b #0)", "(join a b #0=1)", "(join a b 0=#1)", "(join a b 0=1)", "(join a b #0==#1)",
    "(join a b #0=#1=#2)", "(join a b =)", "(join a b #0=)", "(join a b =#0)", "(join a b #0-#1)", "(count a by 0)",
    "(count a by -0)", "(sum a 0 by)", "(first a #3 by order)", "(first a 3 by order 0)", "(first a 3 by order *0)",
    "(first a 3 by order +)", "(first a 3 by order --0)", "(first a 3 by order +-0)", "(first a 3 by order ++0)",
    "(first a 3 by order +-1)", "(first a 3 by order --1)",
    "(rounds x #2 a a)", "(rounds x two a a)", "(once a;)", "(once 'a')", "\x00",
    # a 0 ahead of a number
    "(cols a 00)", "(cols a 01)", "(cols a -0)", "(cols a -01)", "(cols a #00)", "(cols a #01)", "(join a b #01=#0)",
    "(join a b #0=#01)", "(count a by #00)", "(sum a #00 by)", "(first a 03 by order)", "(first a 00 by order)",
    "(first a -0 by order)", "(first a 3 by order +00)", "(first a 3 by order -01)", "(rounds x 02 a a)",
    "(cols a (times 07 #0))", "(cols a (times -0 #0))", "(cols a (part 03 #0))", "(cols a (rest 03 #0))",
    "(cols a 0000000000000000000000000000000)",
    # beyond the bounds
    "(cols a #12)", "(join a b #12=#0)", "(join a b #0=#12)", "(count a by #12)", "(sum a #12 by)",
    "(first a 3 by #12 order)", "(first a 3 by order +12)", "(cols a #100)", "(first a 61 by order)",
    "(first a -1 by order)", "(rounds x 0 a a)", "(rounds x 7 a a)", "(rounds x -1 a a)", "(cols a (part 0 #0))",
    "(cols a (rest 0 #0))", "(cols a (part -1 #0))", "(cols a (part 1000000000 #0))", "(cols a (rest 1000000000 #0))",
    "(cols a (times 1000000000 #0))", "(cols a (times -1000000000 #0))",
]
THINGS = [None, 0, 1, -1, True, False, 1.5, b"a", b"(once a)", ["a"], ("a",), ("name", "a"),
          ("once", ("name", "a")), {}, {"a": 1}, [], (), set(), object(), read, str]


def once_deep(depth):
    return "(once " * depth + "a" + ")" * depth


def text_of_signs(signs):
    """A text of a view that has just so many signs, from 200 on: many columns of thirty figures, some shorter."""
    text = "a"
    while signs - len(text) > 400:
        text = "(cols " + text + (" " + "9" * 30) * 12 + ")"
    left = signs - len(text) - len("(cols )")
    sizes = []
    while left > 0:
        step = min(31, left) if left - 31 != 1 else 30
        sizes.append(step - 1)
        left -= step
    return "(cols " + text + "".join(" " + "9" * size for size in sizes) + ")"


class NoTextCase(unittest.TestCase):
    def check_none(self, text):
        with self.subTest(text=repr(text)[:200]):
            with self.assertRaises(NoText) as taken:
                read(text)
            self.assertIs(taken.exception.__class__, NoText)
            self.assertIsInstance(taken.exception, ViewError)

    def check_both_ways(self, text, view):
        with self.subTest(text=text):
            self.assertEqual(shown(view), text)
            told = read(text)
            self.assertEqual(told, view)
            # equal tuples could still hold True for 1
            self.assertEqual(repr(told), repr(view))


class TestBothWays(NoTextCase):
    def test_each_word(self):
        for text, view in TEXTS:
            self.check_both_ways(text, view)

    def test_every_word_of_views_columns_and_tests_is_there(self):
        whole = repr(TEXTS)
        for word in ("name sieve cols join left notin pour both either less once count sum least most first rounds at "
                     "num gap plus minus times part rest if below same not and or").split():
            self.assertIn("('" + word + "'", whole)

    def test_views_by_chance(self):
        maker = Maker(15)
        for number in range(500):
            view = maker.view({"a": 2, "b": 3, "c": 1}, 4, 6)[0]
            text = shown(view)
            if len(text) <= 2000:
                self.check_both_ways(text, view)

    def test_words_are_read_by_where_they_stand(self):
        for name in ["sieve", "cols", "by", "order", "gap", "plus", "not", "rounds", "name", "at", "num"]:
            view = ("name", name)
            for outer in [view, ("once", view), ("count", view, ()), ("first", view, 2, (), ()), ("sum", view, 0, ()),
                          ("cols", view, (("gap",),)), ("join", view, view, ()), ("rounds", name, 2, view, view)]:
                self.check_both_ways(shown(outer), outer)


class TestBounds(NoTextCase):
    def test_places_to_eleven(self):
        for place in range(12):
            self.check_both_ways(f"(cols a #{place})", ("cols", A, (("at", place),)))
            self.check_both_ways(f"(join a b #{place}=#{11 - place})", ("join", A, B, ((place, 11 - place),)))
            self.check_both_ways(f"(count a by #{place})", ("count", A, (place,)))
            self.check_both_ways(f"(sum a #{place} by)", ("sum", A, place, ()))
            self.check_both_ways(f"(first a 1 by #{place} order +{place} -{place})",
                                 ("first", A, 1, (place,), ((place, True), (place, False))))

    def test_numbers_to_thirty_figures(self):
        for number in [THIRTY, -THIRTY, 10 ** 29, -10 ** 29, 9, -9]:
            self.check_both_ways(f"(cols a {number})", ("cols", A, (("num", number),)))
        for number in [10 ** 30, -10 ** 30, 10 ** 31, 10 ** 100, -10 ** 500]:
            self.check_none(f"(cols a {number})")
        self.check_none("(cols a " + "9" * 1900 + ")")

    def test_numbers_of_times_to_nine_figures(self):
        for number in [999999999, -999999999, 0, 1, -1]:
            self.check_both_ways(f"(cols a (times {number} #0))", ("cols", A, (("times", number, AT0),)))
        for number in [10 ** 9, -10 ** 9, 10 ** 29, 10 ** 40]:
            self.check_none(f"(cols a (times {number} #0))")

    def test_numbers_of_part_and_rest(self):
        for word in ("part", "rest"):
            for number in [1, 2, 999999999]:
                self.check_both_ways(f"(cols a ({word} {number} #0))", ("cols", A, ((word, number, AT0),)))
            for number in [0, -1, -999999999, 10 ** 9, 10 ** 40]:
                self.check_none(f"(cols a ({word} {number} #0))")

    def test_first_to_sixty_and_rounds_from_one_to_six(self):
        for number in range(61):
            self.check_both_ways(f"(first a {number} by order)", ("first", A, number, (), ()))
        for number in range(1, 7):
            self.check_both_ways(f"(rounds x {number} a a)", ("rounds", "x", number, A, A))

    def test_lists_to_twelve(self):
        for many in range(13):
            places, words = (0,) * many, " #0" * many
            self.check_both_ways(f"(count a by{words})", ("count", A, places))
            self.check_both_ways(f"(most a #1 by{words})", ("most", A, 1, places))
            self.check_both_ways(f"(first a 3 by{words} order)", ("first", A, 3, places, ()))
            self.check_both_ways("(first a 3 by order" + " -1" * many + ")", ("first", A, 3, (), ((1, False),) * many))
            for word in ("join", "left", "notin"):
                self.check_both_ways(f"({word} a b" + " #0=#1" * many + ")", (word, A, B, ((0, 1),) * many))
            if many:
                self.check_both_ways(f"(cols a{words})", ("cols", A, (AT0,) * many))
        for many in (13, 14, 50):
            words = " #0" * many
            for text in [f"(count a by{words})", f"(sum a #1 by{words})", f"(first a 3 by{words} order)",
                         "(first a 3 by order" + " -1" * many + ")", f"(cols a{words})"]:
                self.check_none(text)
            for word in ("join", "left", "notin"):
                self.check_none(f"({word} a b" + " #0=#1" * many + ")")

    def test_texts_to_two_thousand_signs(self):
        for signs in [700, 1999, 2000]:
            text = text_of_signs(signs)
            self.assertEqual(len(text), signs)
            self.assertEqual(shown(read(text)), text)
        for signs in [2001, 2002, 2500, 6000]:
            text = text_of_signs(signs)
            self.assertEqual(len(text), signs)
            self.check_none(text)

    def test_thirty_open_brackets(self):
        for depth in [1, 2, 29, 30]:
            text = once_deep(depth)
            self.assertEqual(shown(read(text)), text)
        for depth in [31, 32, 280]:
            self.check_none(once_deep(depth))
        deep = "(not " * 28 + "(same #0 #0)" + ")" * 28
        self.assertEqual(shown(read(f"(sieve a {deep})")), f"(sieve a {deep})")
        self.check_none(f"(sieve a (not {deep}))")
        self.check_none(f"(once (sieve a {deep}))")

    def test_brackets_that_are_closed_again_do_not_count(self):
        text = "(pour " * 20 + "a" + " (once (once b)))" * 20
        self.assertEqual(shown(read(text)), text)

    def test_a_text_of_nothing_but_brackets_is_refused(self):
        for text in ["(" * 2000, ")" * 2000, "(" * 100000, "(once " * 300, "() " * 600, "(" * 30, "(a " * 31]:
            self.check_none(text)


class TestNoText(NoTextCase):
    def test_texts_that_are_none(self):
        for text in NONE:
            self.check_none(text)

    def test_things_that_are_no_texts(self):
        for thing in THINGS:
            self.check_none(thing)

    def test_a_sign_taken_out_put_in_or_put_otherwise(self):
        for text, view in TEXTS:
            for place in range(len(text) + 1):
                others = [text[:place] + text[place + 1:]]
                for sign in " ()#0a-+=b9\n":
                    others += [text[:place] + sign + text[place:], text[:place] + sign + text[place + 1:]]
                for other in others:
                    self.check_none_or_written_so(other)

    def check_none_or_written_so(self, text):
        try:
            view = read(text)
        except NoText:
            return
        self.assertEqual(shown(view), text)

    def test_a_blank_or_a_bracket_too_many_or_too_few(self):
        for text, view in TEXTS:
            for place, sign in enumerate(text):
                if sign in " ()":
                    self.check_none(text[:place] + sign + text[place:])
                if sign in "()":
                    self.check_none(text[:place] + text[place + 1:])
            self.check_none(text + " ")
            self.check_none(" " + text)
            self.check_none(text + ")")
            self.check_none("(" + text + ")")


class TestInterface(unittest.TestCase):
    def test_names_and_arguments(self):
        self.assertEqual(list(inspect.signature(writer.shown).parameters), ["V"])
        self.assertEqual(list(inspect.signature(reader.read).parameters), ["text"])

    def test_what_is_handed_in_stays(self):
        for text, view in TEXTS:
            kept = repr(view)
            shown(view)
            self.assertEqual(repr(view), kept)
        for thing in [["a"], {"a": 1}]:
            kept = repr(thing)
            with self.assertRaises(NoText):
                read(thing)
            self.assertEqual(repr(thing), kept)


if __name__ == "__main__":
    unittest.main()
