"""Bags that parts and machines keep and change in place, so that a small change costs little."""

from viewkeep.bags import bag_of


def put_row(bag, row, count):
    # The one function that changes the bag it is handed: only for bags that the caller keeps as its own.
    total = bag.get(row, 0) + count
    if total != 0:
        bag[row] = total
    elif row in bag:
        bag.pop(row)


class Shelves:
    def __init__(self):
        self.shelf_of = {}

    def put(self, key, row, count):
        shelf = self.shelf_of.setdefault(key, {})
        put_row(shelf, row, count)
        # A shelf without rows would be remembered without need.
        if len(shelf) == 0:
            self.shelf_of.pop(key)

    def at(self, key):
        return dict(self.shelf_of.get(key, {}))

    def whole(self):
        pairs = []
        for shelf in self.shelf_of.values():
            pairs.extend(list(shelf.items()))
        return bag_of(pairs)
