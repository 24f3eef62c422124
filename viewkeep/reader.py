"""Texts read to views."""

from viewkeep.errors import NoText
from viewkeep.views import is_name

MOST_SIGNS = 2000
MOST_OPEN = 30
MOST_IN_LIST = 12
LAST_PLACE = 11
NINE_FIGURES = 999999999
MOST_FIGURES = 30


def read(text):
    refuse_unless(isinstance(text, str) and len(text) <= MOST_SIGNS)
    return view_of(tree_of(text))


def refuse_unless(fits):
    if not fits:
        raise NoText("this is no text that could be read")


def tree_of(text):
    # A bracket becomes the list of what stands in it, anything else stays a word of the text.
    whole = []
    around = [whole]
    for word in text.split(" "):
        begin = word.startswith("(")
        if begin:
            inner = []
            around[-1].append(inner)
            around.append(inner)
        refuse_unless(len(around) <= MOST_OPEN + 1)
        tail = word[1:] if begin else word
        leaf = tail.rstrip(")")
        refuse_unless(leaf != "")
        around[-1].append(leaf)
        left = len(around) - (len(tail) - len(leaf))
        refuse_unless(left >= 1)
        around = around[:left]
    refuse_unless(len(around) == 1 and len(whole) == 1)
    return whole[0]


def is_number(leaf, figures):
    if not isinstance(leaf, str):
        return False
    signs = leaf[1:] if leaf.startswith("-") else leaf
    if not 1 <= len(signs) <= figures:
        return False
    # Not isdigit: that lets figures of other scripts by.
    if not all([sign in "0123456789" for sign in signs]):
        return False
    return leaf == "0" or not signs.startswith("0")


def number_in(leaf, low, high):
    refuse_unless(is_number(leaf, MOST_FIGURES))
    number = int(leaf)
    refuse_unless(low <= number <= high)
    return number


def place_of(leaf):
    refuse_unless(isinstance(leaf, str) and leaf.startswith("#"))
    return number_in(leaf[1:], 0, LAST_PLACE)


def pair_of(leaf):
    refuse_unless(isinstance(leaf, str))
    one, mark, other = leaf.partition("=")
    return (place_of(one), place_of(other))


def order_of(leaf):
    refuse_unless(isinstance(leaf, str) and leaf[:1] in ("+", "-"))
    return (number_in(leaf[1:], 0, LAST_PLACE), leaf.startswith("+"))


def by_of(leaves):
    refuse_unless(leaves[0] == "by")
    return places_of(leaves[1:])


def places_of(leaves):
    refuse_unless(len(leaves) <= MOST_IN_LIST)
    return tuple([place_of(leaf) for leaf in leaves])


def view_of(tree):
    if isinstance(tree, str):
        refuse_unless(is_name(tree))
        return ("name", tree)
    refuse_unless(tree[0] in VIEW_WORDS)
    reads = VIEW_WORDS[tree[0]]
    return reads(tree[0], tree[1:])


def sieve_of(word, rest):
    refuse_unless(len(rest) == 2)
    return (word, view_of(rest[0]), test_of(rest[1]))


def cols_of(word, rest):
    refuse_unless(2 <= len(rest) <= MOST_IN_LIST + 1)
    return (word, view_of(rest[0]), tuple([column_of(tree) for tree in rest[1:]]))


def paired_of(word, rest):
    refuse_unless(2 <= len(rest) <= MOST_IN_LIST + 2)
    return (word, view_of(rest[0]), view_of(rest[1]), tuple([pair_of(leaf) for leaf in rest[2:]]))


def two_of(word, rest):
    refuse_unless(len(rest) == 2)
    return (word, view_of(rest[0]), view_of(rest[1]))


def once_of(word, rest):
    refuse_unless(len(rest) == 1)
    return (word, view_of(rest[0]))


def count_of(word, rest):
    refuse_unless(len(rest) >= 2)
    return (word, view_of(rest[0]), by_of(rest[1:]))


def group_of(word, rest):
    refuse_unless(len(rest) >= 3)
    return (word, view_of(rest[0]), place_of(rest[1]), by_of(rest[2:]))


def first_of(word, rest):
    # A view may be called order, too: the word that parts the lists is looked for behind by alone.
    lists = rest[3:]
    refuse_unless("order" in lists)
    end = lists.index("order")
    refuse_unless(len(lists) - end - 1 <= MOST_IN_LIST)
    by = by_of(rest[2:3] + lists[:end])
    order = tuple([order_of(leaf) for leaf in lists[end + 1:]])
    return (word, view_of(rest[0]), number_in(rest[1], 0, 60), by, order)


def rounds_of(word, rest):
    refuse_unless(len(rest) == 4 and is_name(rest[0]))
    return (word, rest[0], number_in(rest[1], 1, 6), view_of(rest[2]), view_of(rest[3]))


def column_of(tree):
    if isinstance(tree, str):
        return leaf_column(tree)
    refuse_unless(tree[0] in COLUMN_WORDS)
    reads = COLUMN_WORDS[tree[0]]
    return reads(tree[0], tree[1:])


def leaf_column(leaf):
    if leaf == "gap":
        return ("gap",)
    if leaf.startswith("#"):
        return ("at", place_of(leaf))
    refuse_unless(is_number(leaf, MOST_FIGURES))
    return ("num", int(leaf))


def columns_of(word, rest):
    refuse_unless(len(rest) == 2)
    return (word, column_of(rest[0]), column_of(rest[1]))


def times_of(word, rest):
    refuse_unless(len(rest) == 2)
    return (word, number_in(rest[0], -NINE_FIGURES, NINE_FIGURES), column_of(rest[1]))


def divided_of(word, rest):
    refuse_unless(len(rest) == 2)
    return (word, number_in(rest[0], 1, NINE_FIGURES), column_of(rest[1]))


def if_of(word, rest):
    refuse_unless(len(rest) == 3)
    return (word, test_of(rest[0]), column_of(rest[1]), column_of(rest[2]))


def test_of(tree):
    refuse_unless(isinstance(tree, list) and tree[0] in TEST_WORDS)
    reads = TEST_WORDS[tree[0]]
    return reads(tree[0], tree[1:])


def not_of(word, rest):
    refuse_unless(len(rest) == 1)
    return (word, test_of(rest[0]))


def tests_of(word, rest):
    refuse_unless(len(rest) == 2)
    return (word, test_of(rest[0]), test_of(rest[1]))


VIEW_WORDS = {
    "sieve": sieve_of, "cols": cols_of, "join": paired_of, "left": paired_of, "notin": paired_of, "pour": two_of,
    "both": two_of, "either": two_of, "less": two_of, "once": once_of, "count": count_of, "sum": group_of,
    "least": group_of, "most": group_of, "first": first_of, "rounds": rounds_of,
}
COLUMN_WORDS = {
    "plus": columns_of, "minus": columns_of, "times": times_of, "part": divided_of, "rest": divided_of, "if": if_of,
}
TEST_WORDS = {"below": columns_of, "same": columns_of, "not": not_of, "and": tests_of, "or": tests_of}
