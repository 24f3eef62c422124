"""The desk: a keeper that is told rows of words and answers with texts."""

from viewkeep.keeper import Keeper, again
from viewkeep.reader import is_number, refuse_unless

CELL_FIGURES = 30
COUNT_FIGURES = 18


class Desk:
    def __init__(self):
        self.keeper = Keeper()

    def say(self, row):
        refuse_unless(isinstance(row, str))
        words = row.split(" ")
        if len(words) == 1:
            return self.say_alone(words[0])
        if words[0] == "view":
            return self.say_view(words[1:])
        if words[0] == "pour":
            return self.say_pour(words[1:])
        if words[0] == "table":
            return self.say_table(words[1:])
        refuse_unless(len(words) == 2)
        return self.say_of(words[0], words[1])

    def say_alone(self, word):
        if word == "back":
            self.keeper.back()
            return "ok"
        if word == "again":
            self.keeper = again(self.keeper.kept())
            return "ok"
        if word == "depth":
            return str(self.keeper.depth())
        refuse_unless(word == "parts")
        return str(len(self.keeper.nodes()))

    def say_table(self, words):
        refuse_unless(len(words) == 2)
        self.keeper.table(words[0], width_told(words[1]))
        return "ok"

    def say_view(self, words):
        refuse_unless(len(words) >= 2)
        self.keeper.view(words[0], " ".join(words[1:]))
        return "ok"

    def say_pour(self, words):
        self.keeper.pour(items_told(words))
        return "ok"

    def say_of(self, word, name):
        if word == "ask":
            return shown_rows(self.keeper.ask(name))
        if word == "told":
            return shown_rows(self.keeper.told(name))
        if word == "plain":
            return shown_rows(self.keeper.plainly(name))
        if word == "width":
            return str(self.keeper.width(name))
        refuse_unless(word == "size")
        return str(self.keeper.size(name))


def width_told(word):
    # What is no number is handed on as it is: the keeper refuses it in its own order.
    return int(word) if is_number(word, CELL_FIGURES) else word


def items_told(words):
    # Two words an item. Any word may stand for a name, even one with a ; in it: so items go by their places.
    refuse_unless(len(words) % 2 == 0)
    last = len(words) - 2
    return [item_told(words[i], words[i + 1], i == last) for i in range(0, len(words), 2)]


def item_told(name, word, is_last):
    refuse_unless(is_last or word.endswith(";"))
    cells, mark, count = (word if is_last else word[:-1]).partition("*")
    refuse_unless(is_number(count, COUNT_FIGURES))
    return (name, tuple([cell_told(cell) for cell in cells.split(",")]), int(count))


def cell_told(word):
    if word == "gap":
        return None
    refuse_unless(is_number(word, CELL_FIGURES))
    return int(word)


def shown_rows(pairs):
    if len(pairs) == 0:
        return "none"
    return "; ".join([shown_row(row, count) for row, count in pairs])


def shown_row(row, count):
    return ",".join([shown_cell(cell) for cell in row]) + "*" + str(count)


def shown_cell(cell):
    return "gap" if cell is None else str(cell)
