"""What each word of a view makes of whole bags."""

from viewkeep.bags import added, bag_of
from viewkeep.cells import cell_key, cut, row_key


def sieved(bag, test):
    return dict([(row, count) for row, count in bag.items() if test(row)])


def reckoned(bag, columns):
    return bag_of([(tuple([tell(row) for tell in columns]), count) for row, count in bag.items()])


def first_places(pairs):
    return tuple([p for p, q in pairs])


def second_places(pairs):
    return tuple([q for p, q in pairs])


def grouped(bag, places):
    groups = {}
    for row, count in bag.items():
        group = groups.setdefault(cut(row, places), {})
        group[row] = count
    return groups


def joined(one, other, pairs):
    places = first_places(pairs)
    groups = grouped(other, second_places(pairs))
    made = []
    for row, count in one.items():
        made.extend(crossed(row, count, groups.get(cut(row, places), {})))
    return bag_of(made)


def crossed(row, count, others):
    return [(row + other, count * many) for other, many in others.items()]


def left_joined(one, other, pairs, width):
    alone = not_in(one, other, pairs)
    gaps = {(None,) * width: 1}
    return added(joined(one, other, pairs), joined(alone, gaps, ()))


def not_in(one, other, pairs):
    places = first_places(pairs)
    groups = grouped(other, second_places(pairs))
    return dict([(row, count) for row, count in one.items() if cut(row, places) not in groups])


def both(one, other):
    return bag_of([(row, min(count, other.get(row, 0))) for row, count in one.items()])


def either(one, other):
    return added(one, less(other, one))


def less(one, other):
    return bag_of([(row, max(count - other.get(row, 0), 0)) for row, count in one.items()])


def once(stock):
    return dict([(row, 1) for row in stock])


def counted(stock, by):
    return dict([(key + (sum(group.values()),), 1) for key, group in grouped(stock, by).items()])


def summed(stock, p, by):
    return dict([(key + (cell_sum(group, p),), 1) for key, group in grouped(stock, by).items()])


def cell_sum(bag, p):
    return sum([row[p] * count for row, count in bag.items() if row[p] is not None])


def least(stock, p, by):
    return dict([(key + (min(cells_at(group, p), key=cell_key),), 1) for key, group in grouped(stock, by).items()])


def most(stock, p, by):
    return dict([(key + (max(cells_at(group, p), key=cell_key),), 1) for key, group in grouped(stock, by).items()])


def cells_at(bag, p):
    return [row[p] for row in bag]


def firsts(stock, k, by, order):
    taken = {}
    for group in grouped(stock, by).values():
        taken.update(first_rows(group, k, order))
    return taken


def first_rows(group, k, order):
    taken = {}
    free = k
    for row in sorted(group, key=lambda each: order_key(each, order)):
        if free == 0:
            break
        taken[row] = min(group[row], free)
        free = free - taken[row]
    return taken


def order_key(row, order):
    return [place_key(row[p], rising) for p, rising in order] + row_key(row)


def place_key(cell, rising):
    mark, number = cell_key(cell)
    return (mark, number) if rising else (-mark, -number)
