"""Whole numbers, cells and rows, and the order in which they come."""


def is_whole(thing):
    # Python counts True and False among the ints; here they are no numbers.
    return isinstance(thing, int) and not isinstance(thing, bool)


def is_cell(thing):
    return thing is None or is_whole(thing)


def is_row(thing, width):
    if not isinstance(thing, tuple) or len(thing) != width:
        return False
    return all([is_cell(cell) for cell in thing])


def cell_key(cell):
    # Python can't compare None with a number, so a figure ahead of each puts the gap first.
    return (0, 0) if cell is None else (1, cell)


def row_key(row):
    return [cell_key(cell) for cell in row]


def before(one, other):
    return row_key(one) < row_key(other)


def cut(row, places):
    return tuple([row[place] for place in places])
