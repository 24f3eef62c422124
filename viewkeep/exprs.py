"""Columns and tests: functions that tell a cell, or True or False, of a row."""

from viewkeep.cells import cell_key


def column(E):
    word = E[0]
    if word == "at":
        return lambda row: row[E[1]]
    if word == "num":
        return lambda row: E[1]
    if word == "gap":
        return lambda row: None
    if word == "if":
        return chosen(test(E[1]), column(E[2]), column(E[3]))
    if word == "plus":
        return of_two(lambda one, other: one + other, column(E[1]), column(E[2]))
    if word == "minus":
        return of_two(lambda one, other: one - other, column(E[1]), column(E[2]))
    if word == "times":
        return of_one(lambda cell: E[1] * cell, column(E[2]))
    # Python's own division goes down for numbers below 0, and what is left is never below 0: as asked.
    if word == "part":
        return of_one(lambda cell: cell // E[1], column(E[2]))
    return of_one(lambda cell: cell % E[1], column(E[2]))


def of_one(reckon, inner):
    def tell(row):
        cell = inner(row)
        return None if cell is None else reckon(cell)

    return tell


def of_two(reckon, one, other):
    def tell(row):
        first = one(row)
        second = other(row)
        return None if first is None or second is None else reckon(first, second)

    return tell


def chosen(holds, one, other):
    return lambda row: one(row) if holds(row) else other(row)


def test(C):
    word = C[0]
    if word == "below":
        return compared(lambda one, other: cell_key(one) < cell_key(other), column(C[1]), column(C[2]))
    if word == "same":
        return compared(lambda one, other: one == other, column(C[1]), column(C[2]))
    if word == "not":
        return negated(test(C[1]))
    if word == "and":
        return both_hold(test(C[1]), test(C[2]))
    return one_holds(test(C[1]), test(C[2]))


def compared(compare, one, other):
    return lambda row: compare(one(row), other(row))


def negated(holds):
    return lambda row: not holds(row)


def both_hold(one, other):
    return lambda row: one(row) and other(row)


def one_holds(one, other):
    return lambda row: one(row) or other(row)


def within(expression):
    # Of what stands behind a word only columns and tests are tuples; the rest are numbers.
    return [part for part in expression[1:] if isinstance(part, tuple)]


def expression_size(expression):
    return 1 + sum([expression_size(part) for part in within(expression)])


def places_in(expression):
    if expression[0] == "at":
        return [expression[1]]
    places = []
    for part in within(expression):
        places.extend(places_in(part))
    return places
