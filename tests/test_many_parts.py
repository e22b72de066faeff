"""Points 2, 4 and 9: the orders of many parts, which may not take much work."""

import random
import unittest
from math import comb

from overstamps.bands import Band
from overstamps.orders import count_orders, nth_order, order_index
from overstamps.stamps import Stamps
from tests import model, ways
from tests.test_many_askings import steps_of
from tests.test_orders_long import WORDS, built, drawn_splittings


def placed(pieces):
    """The parts with these (offset, length) one after another, of the first word."""
    parts = []
    at = 0
    for offset, length in pieces:
        parts.append((at, 0, offset, length))
        at += length
    return parts


class Known(unittest.TestCase):
    def test_twenty_four_parts_of_one_letter(self):
        ring = Band.named("ring", Stamps("aaa"))
        parts = placed([(0, 2), (0, 3), (1, 2)] * 8)
        self.assertEqual(len(parts), 24)
        self.assertEqual(count_orders(ring, "a" * 56, parts), 94566133475573760000)
        last = nth_order(ring, "a" * 56, parts, 94566133475573760000 - 1)
        self.assertEqual(order_index(ring, "a" * 56, parts, last), 94566133475573760000 - 1)
        line = Band.named("line", Stamps("aaa"))
        self.assertEqual(count_orders(line, "a" * 72, placed([(0, 3)] * 24)), 620448401733239439360000)

    def test_rings_that_are_no_rows(self):
        # Each seam has a part that lies under the other one, so that the ring cannot be cut anywhere.
        numbers = ways.euler_numbers(24)
        for many in (2, 4, 10, 22, 24):
            text, parts = built("WM" * (many // 2), random.Random(many))
            ring = Band.named("ring", Stamps(*WORDS))
            self.assertEqual(count_orders(ring, text, parts), many // 2 * numbers[many - 1])
        # One whole part lies over all the others, which rise on its left and fall on its right.
        for left, right in ((1, 0), (0, 1), (1, 1), (5, 9), (11, 11), (0, 22), (22, 0)):
            text, parts = built("W" + "E" * right + "M" + "B" * left, random.Random(left))
            ring = Band.named("ring", Stamps(*WORDS))
            self.assertEqual(count_orders(ring, text, parts), comb(left + right, left))

    def test_rings_with_one_and_two_parts(self):
        ring = Band.named("ring", Stamps("ab", "ba"))
        self.assertEqual(count_orders(ring, "ab", [(0, 0, 0, 2)]), 1)
        self.assertEqual(count_orders(ring, "ba", [(1, 0, 0, 2)]), 1)
        self.assertEqual(count_orders(ring, "abab", [(0, 0, 0, 2), (2, 0, 0, 2)]), 2)
        self.assertEqual(count_orders(ring, "aba", [(0, 0, 0, 2), (2, 0, 0, 1)]), 1)
        self.assertEqual(count_orders(ring, "abb", [(0, 0, 0, 2), (2, 0, 1, 1)]), 1)


class Second(unittest.TestCase):
    def test_against_a_second_way(self):
        for kind, words, text, parts in drawn_splittings(31, 150):
            band = Band.named(kind, Stamps(*words))
            many = count_orders(band, text, parts)
            self.assertEqual(many, ways.counted_orders(kind, words, parts), (kind, words, text, parts))
            self.assertIs(type(many), int)

    def test_against_the_orders_themselves(self):
        for kind, words, text, parts in drawn_splittings(32, 150):
            if len(parts) <= 6:
                band = Band.named(kind, Stamps(*words))
                orders = list(model.good_orders(kind, words, parts))
                self.assertEqual(count_orders(band, text, parts), len(orders))
                found = [nth_order(band, text, parts, index) for index in range(len(orders))]
                self.assertEqual(found, orders)


class Work(unittest.TestCase):
    def test_many_parts(self):
        for kind, words, text, parts in drawn_splittings(33, 60):
            band = Band.named(kind, Stamps(*words))
            told = (kind, words, text, parts)
            self.assertLess(steps_of(count_orders, band, text, parts), 4500, told)
            self.assertLess(steps_of(nth_order, band, text, parts, 0), 10000, told)

    def test_the_slowest_ones(self):
        ring, line = (Band.named(kind, Stamps("aaa")) for kind in ("ring", "line"))
        parts = placed([(0, 2), (0, 3), (1, 2)] * 8)
        self.assertLess(steps_of(count_orders, ring, "a" * 56, parts), 1000)
        self.assertLess(steps_of(count_orders, line, "a" * 72, placed([(0, 3)] * 24)), 1000)
        text, parts = built("WM" * 12, random.Random(1))
        self.assertLess(steps_of(count_orders, Band.named("ring", Stamps(*WORDS)), text, parts), 4500)


if __name__ == "__main__":
    unittest.main()
