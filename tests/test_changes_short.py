"""Points 2, 3, 4 and 12: short strips, all that pressing leads to from an old one."""

import random
import unittest
from itertools import product

from overstamps.bands import Band
from overstamps.changes import can_change, change, fewest_change
from overstamps.errors import NotPossible
from overstamps.stamps import Stamps
from tests import model, overs
from tests.things import raised

WORDS = [
    ["a"], ["b", "a"], ["ab"], ["ab", "ba"], ["ab", "bb"], ["aa", "ab"], ["abc"], ["aba", "bab"], ["aab", "baa"],
    ["abca"], ["abab", "baba"], ["aaaa"], ["abbb", "aaab"],
]


def texts(words, size):
    """All texts with letters of the words and one that no word has."""
    letters = sorted(set("".join(words))) + ["z"]
    return ["".join(signs) for signs in product(letters, repeat=size)]


def strips(words, size):
    """All old strips of one or two cells, and some longer ones."""
    every = ["".join(signs) for signs in product(sorted(set("".join(words))) + ["z", "."], repeat=size)]
    if size <= 2:
        return every
    chance = random.Random(size)
    some = chance.sample(every, {3: 16, 4: 8, 5: 5}[size])
    return sorted(set(some + ["." * size, every[0], every[0][:-1] + ".", "z" + every[0][1:]]))


class Short(unittest.TestCase):
    def check(self, kind, words, size):
        band = Band.named(kind, Stamps(*words))
        for old in strips(words, size):
            least = overs.reached(kind, old, words)
            for new in texts(words, size):
                told = (kind, words, old, new)
                many = least.get(new)
                self.assertEqual(fewest_change(band, old, new), many, told)
                self.assertIs(can_change(band, old, new), many is not None, told)
                if many is None:
                    raised(self, NotPossible, change, band, old, new)
                else:
                    stampings = change(band, old, new)
                    self.assertEqual(len(stampings), many, told)
                    self.assertEqual(overs.pressed_on(kind, old, words, stampings), new, told)

    def test_lines(self):
        for words in WORDS:
            for size in range(1, 6):
                self.check("line", words, size)

    def test_windows(self):
        for words in WORDS:
            for size in range(1, 6):
                self.check("window", words, size)

    def test_rings(self):
        for words in WORDS:
            for size in range(1, 6):
                self.check("ring", words, size)


class Examples(unittest.TestCase):
    def test_nothing_to_do(self):
        for kind in model.KINDS:
            band = Band.named(kind, Stamps("abc"))
            for text in ("z", "zz", "ab", "abc", "cabx", "qrstuv"):
                self.assertEqual(fewest_change(band, text, text), 0)
                self.assertIs(can_change(band, text, text), True)
                self.assertEqual(change(band, text, text), [])

    def test_old_cells_between(self):
        stamps = Stamps("ab", "cd")
        line, window, ring = (Band.named(kind, stamps) for kind in model.KINDS)
        for band in (line, window, ring):
            self.assertEqual(fewest_change(band, "zzzzz", "abzcd"), 2)
            self.assertEqual(sorted(change(band, "zzzzz", "abzcd")), [(0, 0), (1, 3)])
            self.assertEqual(fewest_change(band, "zzzz", "zabz"), 1)
            self.assertEqual(change(band, "zzzz", "zabz"), [(0, 1)])
            # Beside an old cell a part must begin or end, and an empty cell keeps nothing.
            self.assertIsNone(fewest_change(band, "zzzz", "zazz"))
            self.assertIsNone(fewest_change(band, "zzz.", "zabz"))
        self.assertEqual(fewest_change(window, "zzz", "bza"), 2)
        self.assertEqual(sorted(change(window, "zzz", "bza")), [(0, -1), (0, 2)])
        self.assertIsNone(fewest_change(line, "zzz", "bza"))
        self.assertEqual(fewest_change(ring, "zzz", "bza"), 1)
        self.assertEqual(change(ring, "zzz", "bza"), [(0, 2)])

    def test_a_whole_part_on_a_ring_only_without_old_cells(self):
        ring = Band.named("ring", Stamps("ab", "ba"))
        self.assertIsNone(fewest_change(ring, ".", "a"))
        self.assertEqual(fewest_change(ring, "a", "a"), 0)
        self.assertEqual(fewest_change(ring, "..", "ab"), 1)
        self.assertEqual(fewest_change(ring, "a.", "ab"), 1)
        short = Band.named("ring", Stamps("abc"))
        self.assertIsNone(fewest_change(short, "z.", "za"))
        self.assertEqual(fewest_change(short, "zz", "zz"), 0)
        self.assertEqual(fewest_change(short, "zzzz", "bcza"), 1)

    def test_an_order_that_does_it(self):
        line = Band.named("line", Stamps("abc", "xyz"))
        self.assertEqual(change(line, ".....", "abxyz"), [(0, 0), (1, 2)])
        self.assertEqual(change(line, ".....", "abcyz"), [(1, 2), (0, 0)])


if __name__ == "__main__":
    unittest.main()
