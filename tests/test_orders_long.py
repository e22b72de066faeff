"""Points 2, 3, 4 and 9: the orders of splittings with up to 24 parts."""

import random
import unittest
from math import factorial

from overstamps.bands import Band
from overstamps.errors import InvalidNumber, InvalidOrder
from overstamps.orders import always_before, count_orders, is_order, may_be_first, may_be_last, nth_order, order_index
from overstamps.stamps import Stamps
from tests import model, ways
from tests.things import BIG, mirrored, raised, turned

# A part is whole (W), begins only (B), ends only (E) or does neither (M).
WORDS = ["abc", "def"]
SHOWN = {"W": [(0, 3)], "B": [(0, 1), (0, 2)], "E": [(2, 1), (1, 2)], "M": [(1, 1)]}


def can_meet(left, right):
    return left in "WE" or right in "WB"


def built(row, chance, words=None, far=0):
    """The text and the splitting of a row of kinds of parts; far is where the first part stands, on a ring."""
    words = words or WORDS
    text = ""
    parts = []
    for kind in row:
        offset, length = chance.choice(SHOWN[kind]) if len(words[0]) == 3 else (0, len(words[0]))
        word = chance.randrange(len(words))
        parts.append((len(text), word, offset, length))
        text += words[word][offset:offset + length]
    back = len(text) - far
    return text[back:] + text[:back], turned(parts, len(text), -far)


def drawn_row(kind, many, chance):
    """A row of kinds of parts that can stand in a splitting."""
    while True:
        row = ""
        while len(row) < many:
            row += chance.choice([sign for sign in "WBEMM" if not row or can_meet(row[-1], sign)])
        if kind == "line" and not (row[0] in "WB" and row[-1] in "WE"):
            continue
        if kind == "ring" and not ("W" in row and can_meet(row[-1], row[0])):
            continue
        return row


def drawn_splittings(seed, rounds):
    chance = random.Random(seed)
    for turn in range(rounds):
        for kind in model.KINDS:
            many = chance.choice([24, 24, 23, 12, chance.randint(1, 24)])
            words = WORDS
            row = drawn_row(kind, many, chance)
            text, parts = built(row, chance, words)
            if kind == "ring":
                while len(text) > 60:
                    row = drawn_row(kind, many, chance)
                    text, parts = built(row, chance, words)
                far = chance.randrange(len(text))
                text, parts = text[far:] + text[:far], turned(parts, len(text), far)
            yield kind, words, text, parts


class Numbers(unittest.TestCase):
    def known(self, kind, row, wanted, words=None):
        text, parts = built(row, random.Random(1), words)
        band = Band.named(kind, Stamps(*(words or WORDS)))
        self.assertIs(band.is_splitting(text, parts), True, (kind, row))
        self.assertEqual(count_orders(band, text, parts), wanted, (kind, row))
        self.assertEqual(nth_order(band, text, parts, wanted - 1), max(self.first_and_last(band, text, parts, wanted)))
        raised(self, InvalidNumber, nth_order, band, text, parts, wanted)

    def first_and_last(self, band, text, parts, many):
        found = [nth_order(band, text, parts, index) for index in (0, many - 1)]
        for index, order in zip((0, many - 1), found):
            self.assertIs(is_order(band, text, parts, order), True)
            self.assertEqual(order_index(band, text, parts, order), index)
        return found

    def test_whole_parts_alone(self):
        for kind in model.KINDS:
            for many in (1, 2, 3, 10, 23, 24):
                self.known(kind, "W" * many, factorial(many), ["a", "b"])
                self.known(kind, "W" * many, factorial(many), ["ab", "cd"])

    def test_parts_that_rise_or_fall(self):
        for many in (2, 3, 10, 23, 24):
            for kind in model.KINDS:
                self.known(kind, "W" + "E" * (many - 1), 1)
                self.known(kind, "B" * (many - 1) + "W", 1)
            self.known("window", "B" * many, 1)
            self.known("window", "E" * many, 1)

    def test_parts_that_go_up_and_down(self):
        numbers = ways.euler_numbers(24)
        self.assertEqual(numbers[:9], [1, 1, 1, 2, 5, 16, 61, 272, 1385])
        for half in (1, 2, 3, 8, 11, 12):
            many = 2 * half
            self.known("window", "MW" * half, numbers[many])
            self.known("window", "WM" * half, numbers[many])
            self.known("window", "MW" * half + "M" if many < 24 else "MW" * half, numbers[min(many + 1, 24)])
            self.known("line", "WM" * (half - 1) + "W", numbers[many - 1])
            # One of the whole parts is the last one of all, and the others are a row.
            self.known("ring", "MW" * half, half * numbers[many - 1])

    def test_parts_over_each_other_from_both_sides(self):
        # Of n parts on the left and m on the right of the whole one, each side keeps its order.
        for left, right in ((0, 0), (1, 1), (3, 4), (11, 12), (23, 0), (0, 23), (12, 11)):
            wanted = factorial(left + right) // factorial(left) // factorial(right)
            for kind in ("line", "window", "ring"):
                self.known(kind, "B" * left + "W" + "E" * right, wanted)

    def test_drawn_splittings(self):
        for kind, words, text, parts in drawn_splittings(2, 60):
            band = Band.named(kind, Stamps(*words))
            told = (kind, words, text, parts)
            self.assertTrue(model.is_splitting(kind, words, text, parts), told)
            self.assertEqual(count_orders(band, text, parts), ways.counted_orders(kind, words, parts), told)

    def test_the_other_way_around(self):
        chance = random.Random(3)
        for kind, words, text, parts in drawn_splittings(4, 10):
            band = Band.named(kind, Stamps(*words))
            mirror = Band.named(kind, Stamps(*[word[::-1] for word in words]))
            many = count_orders(band, text, parts)
            backward = mirrored(parts, len(text), len(words[0]))
            self.assertEqual(count_orders(mirror, text[::-1], backward), many)
            if kind == "ring":
                far = chance.randrange(len(text))
                moved = turned(parts, len(text), far)
                self.assertEqual(count_orders(band, text[far:] + text[:far], moved), many)


class Indexes(unittest.TestCase):
    def test_indexes_and_their_neighbours(self):
        chance = random.Random(5)
        for kind, words, text, parts in drawn_splittings(6, 12):
            told = (kind, words, text, parts)
            band = Band.named(kind, Stamps(*words))
            many = count_orders(band, text, parts)
            for index in {0, many - 1, chance.randrange(many), chance.randrange(many)}:
                order = nth_order(band, text, parts, index)
                self.assertIs(is_order(band, text, parts, order), True, told)
                self.assertEqual(order_index(band, text, parts, order), index, told)
                after = ways.next_order(kind, words, parts, order)
                if index == many - 1:
                    self.assertIsNone(after, told)
                else:
                    self.assertEqual(nth_order(band, text, parts, index + 1), after, told)
            for index in (-1, many, many + 1, BIG, -BIG):
                raised(self, InvalidNumber, nth_order, band, text, parts, index)

    def test_drawn_orders(self):
        chance = random.Random(7)
        for kind, words, text, parts in drawn_splittings(8, 12):
            band = Band.named(kind, Stamps(*words))
            order = self.drawn_order(kind, words, parts, chance)
            index = order_index(band, text, parts, order)
            self.assertEqual(nth_order(band, text, parts, index), order)
            cells = model.seen(kind, len(text), words, [band.stampings_of(text, parts)[part] for part in order])
            for part, shown in zip(order, cells):
                self.assertEqual(shown, sorted(model.part_cells(kind, len(text), parts[part])))

    def drawn_order(self, kind, words, parts, chance):
        pairs = model.constraints(kind, words, parts)
        order = []
        while len(order) < len(parts):
            order.append(chance.choice([
                index for index in range(len(parts))
                if index not in order and all(one in order for one, other in pairs if other == index)
            ]))
        return order

    def test_arrangements_that_are_no_orders(self):
        chance = random.Random(9)
        for kind, words, text, parts in drawn_splittings(10, 12):
            band = Band.named(kind, Stamps(*words))
            pairs = model.constraints(kind, words, parts)
            order = nth_order(band, text, parts, 0)
            for _ in range(20):
                thing = list(order)
                for _ in range(chance.randint(1, 2)):
                    one, other = chance.randrange(len(parts)), chance.randrange(len(parts))
                    thing[one], thing[other] = thing[other], thing[one]
                wanted = all(thing.index(one) < thing.index(other) for one, other in pairs)
                self.assertIs(is_order(band, text, parts, thing), wanted)
                if wanted:
                    self.assertEqual(nth_order(band, text, parts, order_index(band, text, parts, thing)), thing)
                else:
                    raised(self, InvalidOrder, order_index, band, text, parts, thing)
            for thing in (order[:-1], order + [0], [order[0]] + order[:-1], tuple(order), [str(part) for part in order]):
                self.assertIs(is_order(band, text, parts, thing), len(order) == 1 and thing == order)


class Ends(unittest.TestCase):
    def test_first_last_and_always(self):
        for kind, words, text, parts in drawn_splittings(11, 40):
            told = (kind, words, text, parts)
            band = Band.named(kind, Stamps(*words))
            later = ways.neighbours(kind, words, parts)
            indexes = range(len(parts))
            self.assertEqual(may_be_last(band, text, parts), [index for index in indexes if not later[index]], told)
            under = {other for others in later for other in others}
            self.assertEqual(may_be_first(band, text, parts), [index for index in indexes if index not in under], told)
            pairs = set()
            for index in indexes:
                waiting = list(later[index])
                while waiting:
                    other = waiting.pop()
                    if (index, other) not in pairs:
                        pairs.add((index, other))
                        waiting.extend(later[other])
            self.assertEqual(always_before(band, text, parts), sorted(pairs), told)

    def test_whole_parts_can_be_last(self):
        for kind, words, text, parts in drawn_splittings(12, 20):
            if kind != "window":
                wanted = [index for index, part in enumerate(parts) if part[3] == len(words[0])]
                self.assertEqual(may_be_last(Band.named(kind, Stamps(*words)), text, parts), wanted)


if __name__ == "__main__":
    unittest.main()
