"""What is asked of every part, for the tests of each: its output, its memory, and that nothing is shared."""

import copy
import unittest

import oracle
from makers import Maker
from viewkeep.bags import added, turned
from viewkeep.keyed import Keyed
from viewkeep.parts import Part

WAYS = ["first", "second", "both", "same"]


class PartCase(unittest.TestCase):
    def check_steps(self, make, word, besides, widths, seed, steps=12):
        """Many changes, one after another; behind each one output, memory, needs and plain."""
        maker = Maker(seed)
        part = make()
        needs = part.needs()
        inputs, output = [{} for width in widths], {}
        self.check_state(part, word, besides, inputs, output, needs)
        for step in range(steps):
            changes = self.next_changes(maker, inputs, widths)
            told = part.change(changes)
            self.check_bag(told)
            output = oracle.plus(output, told)
            inputs = [oracle.plus(stock, change) for stock, change in zip(inputs, changes)]
            self.check_state(part, word, besides, inputs, output, needs)
            maker_stocks = [maker.stock(width) for width in widths]
            self.assertEqual(part.plain(maker_stocks), oracle.made(word, besides, maker_stocks))
            self.check_state(part, word, besides, inputs, output, needs)
        changes = [turned(stock) for stock in inputs]
        self.assertEqual(added(output, part.change(changes)), {})
        self.check_state(part, word, besides, [{} for width in widths], {}, needs)

    def next_changes(self, maker, inputs, widths):
        changes = [maker.change(stock, width) for stock, width in zip(inputs, widths)]
        way = maker.chance.choice(WAYS)
        if len(inputs) == 1:
            return changes
        if way == "same" and widths[0] == widths[1]:
            # the same bag to both, such that both stay stocks
            change = {row: count for row, count in changes[0].items()
                      if all(stock.get(row, 0) + count >= 0 for stock in inputs)}
            return [change, change]
        if way == "first":
            return [changes[0], {}]
        if way == "second":
            return [{}, changes[1]]
        return changes

    def check_bag(self, bag):
        self.assertIs(bag.__class__, dict)
        self.assertNotIn(0, bag.values())

    def check_state(self, part, word, besides, inputs, output, needs):
        self.assertIsInstance(part, Part)
        self.assertEqual(output, oracle.made(word, besides, inputs))
        self.assertEqual(part.plain(inputs), output)
        self.assertEqual(part.needs(), needs)
        self.assertEqual(part.memory(), oracle.memory_of(needs, inputs))
        self.assertIs(part.memory().__class__, list)
        for told in part.memory():
            self.assertIs(told.__class__, list)
            self.assertEqual({pair.__class__ for pair in told} - {tuple}, set())
        if isinstance(part, Keyed):
            self.check_keys(part, inputs, output)

    def check_keys(self, part, inputs, output):
        """Point 22: what is made of each key, of what is kept of the rows with that key, is the whole together."""
        kept = {}
        for i, stock in enumerate(inputs):
            for row, count in stock.items():
                bags = kept.setdefault(part.key_of(i, row), [{} for other in inputs])
                bags[i] = added(bags[i], {part.kept_row(i, row): count})
        total = {}
        for key, bags in kept.items():
            before = copy.deepcopy(bags)
            made = part.made(key, bags)
            self.assertEqual(bags, before)
            self.check_bag(made)
            self.assertTrue(all(count > 0 for count in made.values()))
            total = added(total, made)
            made.clear()
            self.assertEqual(bags, before)
            self.assertEqual(part.made(key, [{} for bag in bags]), {})
        self.assertEqual(total, output)

    def check_orders(self, make, widths, seed):
        """The same changes one by one, in another order, and poured together; and taken back."""
        maker = Maker(seed)
        begin = [maker.stock(width) for width in widths]
        # Counts above 0 and below 0 are of rows unlike, so that every order keeps stocks.
        steps = []
        for i, stock in enumerate(begin):
            for row, count in stock.items():
                steps.append((i, {row: -maker.chance.randint(1, count)}))
            for row in maker.stock(widths[i]):
                if row not in stock:
                    steps.append((i, {row: maker.chance.randint(1, 2)}))
        orders = [steps, steps[::-1], maker.chance.sample(steps, len(steps))]
        told = []
        for order in orders:
            part = make()
            part.change(begin)
            output = {}
            for i, change in order:
                output = added(output, part.change([change if place == i else {} for place in range(len(widths))]))
            told.append((output, part.memory()))
        part = make()
        part.change(begin)
        before = part.memory()
        together = [{} for width in widths]
        for i, change in steps:
            together[i] = added(together[i], change)
        output = part.change(together)
        told.append((output, part.memory()))
        for other in told[1:]:
            self.assertEqual(other, told[0])
        self.assertEqual(part.change([turned(change) for change in together]), turned(output))
        self.assertEqual(part.memory(), before)

    def check_nothing_shared(self, make, widths, seed):
        maker = Maker(seed)
        part, twin = make(), make()
        inputs = [{} for width in widths]
        for step in range(5):
            changes = self.next_changes(maker, inputs, widths)
            inputs = [oracle.plus(stock, change) for stock, change in zip(inputs, changes)]
            kept = copy.deepcopy(changes)
            orders = [list(change) for change in changes]
            told = part.change(changes)
            self.assertEqual((changes, [list(change) for change in changes]), (kept, orders))
            expected = twin.change(copy.deepcopy(changes))
            self.assertEqual(told, expected)
            # what was handed in, and what was given, is changed behind the call
            changes[0][(9,) * widths[0]] = 9
            changes.clear()
            told.clear()
            part.needs().clear()
            for thing in part.memory():
                thing.clear()
            self.assertEqual((part.needs(), part.memory()), (twin.needs(), twin.memory()))
            self.check_plain_shares_nothing(part, [dict(stock) for stock in inputs])
            memory = part.memory()
            kept = copy.deepcopy(memory)
            part.change([{(5,) * width: 1} for width in widths])
            self.assertEqual(memory, kept)
            part.change([{(5,) * width: -1} for width in widths])
            self.assertEqual(part.memory(), twin.memory())

    def check_plain_shares_nothing(self, part, stocks):
        kept = copy.deepcopy(stocks)
        told = part.plain(stocks)
        expected = dict(told)
        self.assertEqual(stocks, kept)
        other = part.plain(stocks)
        other[("more",)] = 1
        self.assertEqual((stocks, told), (kept, expected))
        for stock in stocks:
            stock.clear()
        self.assertEqual(told, expected)

    def check_part(self, make, word, besides, widths, needs, seed):
        self.assertEqual(make().needs(), needs)
        for number in range(4):
            self.check_steps(make, word, besides, widths, seed + number)
            self.check_orders(make, widths, seed + number)
            self.check_nothing_shared(make, widths, seed + number)
