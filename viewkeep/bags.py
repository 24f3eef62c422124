"""Bags: dicts from rows of one width to their counts, whole numbers other than 0."""

from viewkeep.cells import cut, row_key


def added(one, other):
    return bag_of(list(one.items()) + list(other.items()))


def turned(bag):
    return dict([(row, -count) for row, count in bag.items()])


def bag_of(pairs):
    sums = {}
    for row, count in pairs:
        sums[row] = sums.get(row, 0) + count
    # Only behind the last pair is it known which sums come to 0.
    return dict([(row, count) for row, count in sums.items() if count != 0])


def told(bag):
    return [(row, bag[row]) for row in sorted(bag, key=row_key)]


def cut_to(bag, places):
    return bag_of([(cut(row, places), count) for row, count in bag.items()])


def is_stock(bag):
    return all([count > 0 for count in bag.values()])
