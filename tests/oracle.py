"""What the words of point 11 make, told another way: stocks are spread to lists of rows, each row as often as it is
there, and worked on row by row without keys, groups or counts. Slow, and for small counts alone."""

import collections
import functools

from viewkeep.exprs import column, test


def spread(stock):
    return [row for row, count in stock.items() for number in range(count)]


def gathered(rows):
    return dict(collections.Counter(rows))


def cell_before(one, other):
    if one is None or other is None:
        return one is None and other is not None
    return one < other


def row_before(one, other):
    for first, second in zip(one, other):
        if first != second:
            return cell_before(first, second)
    return False


def goes_with(row, other, pairs):
    return all(row[p] == other[q] for p, q in pairs)


def order_before(one, other, order):
    for p, rising in order:
        if one[p] != other[p]:
            return cell_before(one[p], other[p]) == rising
    return row_before(one, other)


def in_order(rows, before):
    def compare(one, other):
        return -1 if before(one, other) else 1 if before(other, one) else 0
    return sorted(rows, key=functools.cmp_to_key(compare))


def groups_of(rows, by):
    """A list of (cut row, the group's rows), by looking at every row for every cut row."""
    heads = []
    for row in rows:
        head = tuple(row[p] for p in by)
        if head not in heads:
            heads.append(head)
    return [(head, [row for row in rows if tuple(row[p] for p in by) == head]) for head in heads]


def made(word, besides, stocks):
    """What a word makes of the stocks of its views, besides told as in a net's node (point 26)."""
    lists = [spread(stock) for stock in stocks]
    return gathered(MAKERS[word](besides, *lists))


def make_left(besides, one, other):
    pairs, width = besides
    rows = []
    for row in one:
        found = [row + second for second in other if goes_with(row, second, pairs)]
        rows += found or [row + (None,) * width]
    return rows


def make_less(besides, one, other):
    rows = list(one)
    for row in other:
        if row in rows:
            rows.remove(row)
    return rows


def make_first(besides, one):
    k, by, order = besides
    rows = []
    for head, group in groups_of(one, by):
        rows += in_order(group, lambda first, second: order_before(first, second, order))[:k]
    return rows


def make_groups(tell):
    def make(besides, one):
        by = besides[-1]
        return [head + (tell([row[besides[0]] for row in group] if len(besides) == 2 else group),)
                for head, group in groups_of(one, by)]
    return make


MAKERS = {
    "sieve": lambda besides, one: [row for row in one if test(besides[0])(row)],
    "cols": lambda besides, one: [tuple(column(E)(row) for E in besides[0]) for row in one],
    "join": lambda besides, one, other: [row + second for row in one for second in other
                                         if goes_with(row, second, besides[0])],
    "left": make_left,
    "notin": lambda besides, one, other: [row for row in one
                                          if not any(goes_with(row, second, besides[0]) for second in other)],
    "pour": lambda besides, one, other: one + other,
    "both": lambda besides, one, other: make_less((), one, make_less((), one, other)),
    "either": lambda besides, one, other: one + make_less((), other, one),
    "less": make_less,
    "once": lambda besides, one: list(dict.fromkeys(one)),
    "count": make_groups(len),
    "sum": make_groups(lambda cells: sum(cell for cell in cells if cell is not None)),
    "least": make_groups(lambda cells: in_order(cells, cell_before)[0]),
    "most": make_groups(lambda cells: in_order(cells, cell_before)[-1]),
    "first": make_first,
}


def told_view(V, tables):
    """A view's stock and width, of a dict from names to (stock, width)."""
    word = V[0]
    if word == "name":
        return tables[V[1]]
    if word == "rounds":
        stock, width = told_view(V[3], tables)
        stock = made("once", (), [stock])
        for number in range(V[2]):
            more = told_view(V[4], {**tables, V[1]: (stock, width)})[0]
            stock = made("once", (), [made("pour", (), [stock, more])])
        return stock, width
    inner = [told_view(part, tables) for part in V[1:3] if is_view(word, part)]
    besides = V[1 + len(inner):]
    if word == "left":
        besides = besides + (inner[1][1],)
    width = inner[0][1]
    if word == "cols":
        width = len(V[2])
    elif word in ("join", "left"):
        width += inner[1][1]
    elif word in ("count", "sum", "least", "most"):
        width = len(besides[-1]) + 1
    return made(word, besides, [stock for stock, wide in inner]), width


def is_view(word, part):
    """Of what stands behind a word: of sieve, cols and groups the second is a test, columns or places."""
    words = list(MAKERS) + ["name", "rounds"]
    return isinstance(part, tuple) and len(part) > 0 and part[0] in words


def memory_of(needs, stocks):
    """What needs tells of the inputs as they stand, as point 20 tells it."""
    told = []
    for need in needs:
        rows = spread(stocks[need[1]])
        if need[0] == "rows":
            told.append(in_row_order(gathered(rows)))
        elif need[0] == "cut":
            told.append(in_row_order(gathered([tuple(row[p] for p in need[2]) for row in rows])))
        else:
            sums = {head: sum(row[need[3]] for row in group if row[need[3]] is not None)
                    for head, group in groups_of(rows, need[2])}
            told.append(in_row_order(sums))
    return told


def in_row_order(numbers):
    return [(row, numbers[row]) for row in in_order(list(numbers), row_before)]


def plus(stock, change):
    """A stock with a change put to it, by counts alone; it must stay a stock."""
    total = dict(stock)
    for row, count in change.items():
        total[row] = total.get(row, 0) + count
        assert total[row] >= 0
    return {row: count for row, count in total.items() if count}
