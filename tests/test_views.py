"""Points 11 to 14: names, widths, what is refused of a view and in which order, sizes."""

import copy
import inspect
import unittest

from makers import Maker
from viewkeep import errors, views
from viewkeep.errors import NoName, NoPlace, Twice, Unlike, ViewError, Wide
from viewkeep.views import is_name, look, size

A, B, C, D = ("name", "a"), ("name", "b"), ("name", "c"), ("name", "d")
# a is 2 wide, b 3, c 1, d 12.
WIDTHS = {"a": 2, "b": 3, "c": 1, "d": 12}
SIZES = {"a": 1, "b": 1, "c": 5, "d": 20}
AT0, AT1, AT2 = ("at", 0), ("at", 1), ("at", 2)
SAME = ("same", AT0, AT1)
X = ("name", "x")
LOST = ("name", "lost")
ALL = [errors.NoName, errors.NoPlace, errors.Unlike, errors.Wide, errors.Twice, errors.NoText, errors.TooLarge,
       errors.NoWidth, errors.NoRow, errors.NoCount, errors.Short, errors.NoChange]

# (view, width, size) by the names above
TOLD = [
    (A, 2, 1),
    (C, 1, 5),
    (D, 12, 20),
    (("sieve", A, SAME), 2, 1 + 1 + 3),
    (("sieve", B, ("not", ("and", SAME, ("below", ("gap",), ("num", 3))))), 3, 1 + 1 + (1 + 1 + 3 + 3)),
    (("sieve", C, ("or", ("same", AT0, AT0), ("same", AT0, ("gap",)))), 1, 1 + 5 + 7),
    (("cols", A, (AT1,)), 1, 1 + 1 + 1),
    (("cols", C, (AT0,) * 12), 12, 1 + 5 + 12),
    (("cols", A, (("if", SAME, AT0, ("num", 7)), ("times", 3, AT1))), 2, 1 + 1 + (1 + 3 + 1 + 1) + 2),
    (("cols", A, (("part", 3, ("rest", 4, AT0)), ("minus", ("plus", AT0, AT1), ("gap",)))), 2, 1 + 1 + 3 + 5),
    (("join", A, B, ()), 5, 1 + 1 + 1),
    (("join", A, B, ((0, 2), (1, 1))), 5, 1 + 1 + 1 + 2),
    (("join", A, A, ((0, 0),) * 12), 4, 1 + 1 + 1 + 12),
    (("left", B, C, ((2, 0),)), 4, 1 + 1 + 5 + 1),
    (("left", B, C, ()), 4, 1 + 1 + 5),
    (("notin", B, C, ((2, 0), (0, 0))), 3, 1 + 1 + 5 + 2),
    (("notin", D, D, ((11, 11),)), 12, 1 + 20 + 20 + 1),
    (("pour", A, A), 2, 3),
    (("both", C, C), 1, 11),
    (("either", D, D), 12, 41),
    (("less", B, ("join", A, C, ())), 3, 1 + 1 + (1 + 1 + 5)),
    (("once", B), 3, 2),
    (("count", B, ()), 1, 2),
    (("count", B, (2, 0, 2)), 4, 5),
    (("count", D, (0,) * 11), 12, 1 + 20 + 11),
    (("sum", B, 2, ()), 1, 2),
    (("sum", B, 0, (1,)), 2, 3),
    (("least", A, 1, (0, 1)), 3, 4),
    (("most", C, 0, (0, 0, 0)), 4, 1 + 5 + 3),
    (("first", B, 0, (), ()), 3, 2),
    (("first", B, 60, (2,), ((0, True), (1, False), (1, True))), 3, 1 + 1 + 1 + 3),
    (("first", D, 3, (0,) * 12, ((11, False),) * 12), 12, 1 + 20 + 12 + 12),
    (("rounds", "x", 1, A, X), 2, 1 + 1 * (2 + 1)),
    (("rounds", "x", 6, A, ("both", A, X)), 2, 1 + 6 * (2 + 3)),
    (("rounds", "x", 3, C, ("cols", ("join", X, X, ((0, 0),)), (AT1,))), 1, 5 + 3 * (2 + (1 + (1 + 1 + 1 + 1) + 1))),
    # rounds within W, the outer name within the inner W; rounds within V by the same name
    (("rounds", "x", 2, A, ("rounds", "y", 3, X, ("pour", X, ("name", "y")))), 2, 1 + 2 * (2 + (1 + 3 * (2 + 3)))),
    (("rounds", "x", 2, ("rounds", "x", 4, A, ("pour", X, A)), X), 2, (1 + 4 * (2 + 3)) + 2 * (2 + 1)),
    (("rounds", "x", 2, A, ("pour", ("rounds", "y", 2, A, A), ("rounds", "y", 2, X, X))), 2,
     1 + 2 * (2 + (1 + (1 + 2 * 3) + (1 + 2 * 3)))),
]

# A view with one fault, and how it is refused.
FAULTS = [
    (LOST, NoName),
    (("sieve", LOST, SAME), NoName),
    (("pour", A, LOST), NoName),
    (("rounds", "x", 2, X, A), NoName),
    (("rounds", "x", 2, ("pour", A, X), A), NoName),
    (("rounds", "x", 2, A, LOST), NoName),
    (("pour", ("rounds", "x", 2, A, X), X), NoName),
    (("join", ("rounds", "x", 2, A, X), ("once", X), ()), NoName),
    (("rounds", "x", 2, A, ("pour", ("rounds", "y", 2, A, X), ("name", "y"))), NoName),
    (("sieve", A, ("same", AT0, AT2)), NoPlace),
    (("sieve", A, ("same", AT2, AT0)), NoPlace),
    (("sieve", A, ("below", AT0, AT2)), NoPlace),
    (("sieve", A, ("not", ("or", SAME, ("and", SAME, ("below", AT2, AT0))))), NoPlace),
    (("cols", A, (AT2,)), NoPlace),
    (("cols", A, (AT0, AT1, AT2)), NoPlace),
    (("cols", A, (("plus", AT0, AT2),)), NoPlace),
    (("cols", A, (("minus", AT2, AT0),)), NoPlace),
    (("cols", A, (("times", 1, AT2),)), NoPlace),
    (("cols", A, (("part", 1, AT2),)), NoPlace),
    (("cols", A, (("rest", 1, AT2),)), NoPlace),
    (("cols", A, (("if", ("same", AT2, AT0), AT0, AT0),)), NoPlace),
    (("cols", A, (("if", SAME, AT2, AT0),)), NoPlace),
    (("cols", A, (("if", SAME, AT0, AT2),)), NoPlace),
    (("cols", D, (("at", 12),)), NoPlace),
    (("join", A, B, ((2, 0),)), NoPlace),
    (("join", A, B, ((0, 3),)), NoPlace),
    (("join", B, A, ((2, 1), (0, 2))), NoPlace),
    (("left", A, B, ((2, 2),)), NoPlace),
    (("left", A, B, ((1, 3),)), NoPlace),
    (("notin", A, B, ((2, 2),)), NoPlace),
    (("notin", A, B, ((0, 0), (1, 3))), NoPlace),
    (("count", A, (2,)), NoPlace),
    (("count", A, (0, 1, 2)), NoPlace),
    (("sum", A, 2, ()), NoPlace),
    (("sum", A, 0, (2,)), NoPlace),
    (("least", A, 2, (0,)), NoPlace),
    (("least", A, 1, (0, 2)), NoPlace),
    (("most", A, 2, ()), NoPlace),
    (("most", A, 1, (11,)), NoPlace),
    (("first", A, 1, (2,), ()), NoPlace),
    (("first", A, 1, (), ((2, True),)), NoPlace),
    (("first", A, 0, (0,), ((0, True), (2, False))), NoPlace),
    (("sieve", ("count", A, ()), ("same", AT0, AT1)), NoPlace),
    (("rounds", "x", 1, A, ("cols", X, (AT0, AT2))), NoPlace),
    (("pour", A, B), Unlike),
    (("both", A, B), Unlike),
    (("either", B, A), Unlike),
    (("less", C, D), Unlike),
    (("rounds", "x", 1, A, B), Unlike),
    (("rounds", "x", 1, A, ("count", X, ())), Unlike),
    (("join", D, C, ()), Wide),
    (("left", C, D, ()), Wide),
    (("join", ("join", B, B, ()), ("join", B, ("join", B, C, ()), ()), ()), Wide),
    (("count", D, (0,) * 12), Wide),
    (("sum", D, 0, (0,) * 12), Wide),
    (("least", A, 0, (0,) * 12), Wide),
    (("most", A, 0, (0,) * 12), Wide),
    (("once", ("join", D, A, ())), Wide),
    (("rounds", "x", 1, ("join", D, A, ()), X), Wide),
    (("rounds", "x", 1, D, ("join", X, X, ())), Wide),
    (("rounds", "a", 1, B, B), Twice),
    (("rounds", "x", 1, A, ("rounds", "x", 1, A, X)), Twice),
    (("rounds", "x", 1, A, ("rounds", "y", 1, ("rounds", "x", 1, A, A), A)), Twice),
    (("rounds", "x", 1, A, ("rounds", "y", 1, A, ("rounds", "x", 1, A, A))), Twice),
    (("once", ("rounds", "d", 1, A, A)), Twice),
]

BAD = {NoName: LOST, NoPlace: ("count", A, (2,)), Unlike: ("pour", A, B), Wide: ("join", D, D, ()),
       Twice: ("rounds", "a", 1, A, A)}

# A view with two faults or more, and how the first of them by the order of point 13 is refused.
ORDERS = [
    # own faults behind those of the views within
    (("cols", LOST, (("at", 11),)), NoName),
    (("sieve", ("pour", A, B), ("same", AT0, ("at", 9))), Unlike),
    (("count", ("join", D, D, ()), (11,)), Wide),
    (("first", ("count", A, (2,)), 1, (9,), ()), NoPlace),
    (("once", ("sieve", ("pour", A, B), ("same", AT0, ("at", 9)))), Unlike),
    # places ahead of Unlike and Wide
    (("join", D, C, ((12, 0),)), NoPlace),
    (("join", D, C, ((0, 1),)), NoPlace),
    (("left", D, C, ((0, 0), (0, 1))), NoPlace),
    (("count", A, (0,) * 11 + (2,)), NoPlace),
    (("sum", A, 2, (0,) * 12), NoPlace),
    (("least", A, 0, (0,) * 11 + (2,)), NoPlace),
    # in rounds: Twice, V, W, Unlike
    (("rounds", "a", 1, LOST, B), Twice),
    (("rounds", "a", 1, B, C), Twice),
    (("rounds", "x", 1, ("pour", A, B), LOST), Unlike),
    (("rounds", "x", 1, X, LOST), NoName),
    (("rounds", "x", 1, A, ("join", B, LOST, ())), NoName),
    (("rounds", "x", 1, A, ("count", B, (7,))), NoPlace),
    (("rounds", "x", 1, A, ("join", D, D, ())), Wide),
    (("rounds", "x", 1, A, ("rounds", "x", 1, LOST, LOST)), Twice),
    (("rounds", "x", 1, ("rounds", "b", 1, LOST, A), LOST), Twice),
]


class TestIsName(unittest.TestCase):
    def test_one_to_eight_letters_are_a_name(self):
        for text in ["a", "z", "m", "ab", "zzzzzzzz", "abcdefgh", "name", "by", "order", "gap", "rounds", "join",
                     "none", "table"]:
            self.assertIs(is_name(text), True)

    def test_other_texts_are_none(self):
        for text in ["", "abcdefghi", "a" * 100, "A", "aB", "a1", "1", "a b", " a", "a ", "a\n", "\n", "a_b", "-a", "`",
                     "{", "\u00e9", "\u00df", "\u0430", "a\u0301", "(a)", "#0", "a\x00"]:
            with self.subTest(text=text):
                self.assertIs(is_name(text), False)

    def test_what_is_no_text_is_none(self):
        for thing in [None, 0, 1, True, 1.0, b"a", ["a"], ("a",), {"a": 1}, {"a"}, ("name", "a"), [], (), {}, object(),
                      str]:
            with self.subTest(thing=repr(thing)):
                self.assertIs(is_name(thing), False)


class TestWidthsAndSizes(unittest.TestCase):
    def test_widths(self):
        for view, width, told in TOLD:
            with self.subTest(view=view):
                self.assertEqual(look(view, WIDTHS), width)

    def test_sizes(self):
        for view, width, told in TOLD:
            with self.subTest(view=view):
                self.assertEqual(size(view, SIZES), told)

    def test_every_word_is_there(self):
        words = {view[0] for view, width, told in TOLD}
        self.assertEqual(words, {"name", "sieve", "cols", "join", "left", "notin", "pour", "both", "either", "less",
                                 "once", "count", "sum", "least", "most", "first", "rounds"})

    def test_the_size_of_each_name_counts(self):
        self.assertEqual(size(("join", A, B, ((0, 0),)), {"a": 70, "b": 900}), 1 + 70 + 900 + 1)
        self.assertEqual(size(("rounds", "x", 6, A, ("pour", A, X)), {"a": 10}), 10 + 6 * (2 + 1 + 10 + 1))

    def test_a_size_may_be_great(self):
        view = A
        for name in ["p", "q", "r", "s", "t", "u"]:
            view = ("rounds", name, 6, A, ("pour", ("name", name), view))
        expected = 1
        for number in range(6):
            expected = 1 + 6 * (2 + 1 + 1 + expected)
        self.assertEqual(size(view, SIZES), expected)
        self.assertEqual(look(view, WIDTHS), 2)

    def test_thirty_views_within_one_another(self):
        view = A
        for number in range(30):
            view = ("once", view)
        self.assertEqual((look(view, WIDTHS), size(view, SIZES)), (2, 31))

    def test_twelve_cells_are_let_by(self):
        self.assertEqual(look(("join", ("join", B, B, ()), ("join", B, B, ()), ((5, 5),)), WIDTHS), 12)
        self.assertEqual(look(("left", ("name", "e"), C, ()), {"e": 11, "c": 1}), 12)


class TestRefusals(unittest.TestCase):
    def check(self, view, refusal):
        with self.subTest(view=view):
            with self.assertRaises(ViewError) as taken:
                look(view, WIDTHS)
            self.assertEqual([other for other in ALL if isinstance(taken.exception, other)], [refusal])

    def test_each_fault(self):
        for view, refusal in FAULTS:
            self.check(view, refusal)

    def test_of_several_faults_the_first_one(self):
        for view, refusal in ORDERS:
            self.check(view, refusal)

    def test_views_within_come_from_the_left_to_the_right(self):
        for refusal, bad in BAD.items():
            for other, worse in BAD.items():
                self.check(("join", bad, worse, ((9, 9),)), refusal)
                self.check(("pour", bad, worse), refusal)
                self.check(("rounds", "x", 2, bad, worse), refusal)
                self.check(("join", A, ("once", worse), ((9, 9),)), other)
                self.check(("join", ("pour", bad, A), worse, ((9, 9),)), refusal)

    def test_a_fault_of_each_kind_within_each_word(self):
        for refusal, bad in BAD.items():
            for view in [("sieve", bad, SAME), ("cols", bad, (AT0,)), ("join", bad, A, ()), ("join", A, bad, ()),
                         ("left", bad, A, ()), ("left", A, bad, ()), ("notin", bad, A, ()), ("notin", A, bad, ()),
                         ("pour", bad, A), ("pour", A, bad), ("both", bad, A), ("both", A, bad), ("either", bad, A),
                         ("either", A, bad), ("less", bad, A), ("less", A, bad), ("once", bad), ("count", bad, ()),
                         ("sum", bad, 0, ()), ("least", bad, 0, ()), ("most", bad, 0, ()), ("first", bad, 1, (), ()),
                         ("rounds", "x", 1, bad, X), ("rounds", "x", 1, A, bad)]:
                self.check(view, refusal)

    def test_a_name_is_known_within_its_own_rounds_alone(self):
        self.assertEqual(look(("rounds", "x", 1, A, ("once", X)), WIDTHS), 2)
        self.check(("rounds", "x", 1, ("once", X), A), NoName)
        self.check(("pour", ("rounds", "x", 1, A, X), ("once", X)), NoName)
        self.assertEqual(look(("pour", ("rounds", "x", 1, A, X), ("rounds", "x", 1, A, X)), WIDTHS), 2)


class TestNothingIsChanged(unittest.TestCase):
    def test_what_is_handed_in_stays(self):
        for view in [told[0] for told in TOLD] + [fault[0] for fault in FAULTS + ORDERS]:
            widths, sizes = dict(WIDTHS, lost2=1), dict(SIZES)
            kept = copy.deepcopy((view, widths, sizes))
            try:
                look(view, widths)
                size(view, sizes)
            except ViewError:
                pass
            self.assertEqual((view, widths, sizes), kept)
            self.assertEqual(list(widths), ["a", "b", "c", "d", "lost2"])

    def test_names_of_rounds_are_not_kept_from_call_to_call(self):
        look(("rounds", "x", 1, A, X), WIDTHS)
        with self.assertRaises(NoName):
            look(X, WIDTHS)
        with self.assertRaises(Unlike):
            look(("rounds", "x", 1, A, B), WIDTHS)
        self.assertEqual(look(("rounds", "x", 1, B, B), WIDTHS), 3)


class TestByChance(unittest.TestCase):
    def test_views_that_are_let_by_tell_their_width(self):
        maker = Maker(11)
        for number in range(400):
            view, width = maker.view({"a": 2, "b": 3, "c": 1}, 4, 6)
            with self.subTest(view=view):
                self.assertEqual(look(view, {"a": 2, "b": 3, "c": 1}), width)


class TestInterface(unittest.TestCase):
    def test_names_and_arguments(self):
        for name, arguments in {"look": ["V", "widths"], "is_name": ["thing"], "size": ["V", "sizes"]}.items():
            self.assertEqual(list(inspect.signature(getattr(views, name)).parameters), arguments)


if __name__ == "__main__":
    unittest.main()
