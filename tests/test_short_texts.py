"""Points 3, 4 and 7: all stampings on all short strips, and all coverings of short texts."""

import unittest
from itertools import product

from overstamps.bands import Band
from overstamps.errors import InvalidParts, NotPossible
from overstamps.stamps import Stamps
from tests import model
from tests.things import raised

WORDS = [
    ["a"], ["b", "a"], ["a", "b", "c"], ["ab"], ["aa"], ["ab", "ba"], ["aa", "ab"], ["ab", "bb", "ca"], ["aba"],
    ["abc"], ["aaa"], ["aab"], ["aab", "bab"], ["abb", "baa", "aba"], ["abc", "cab"], ["abc", "bac", "ccb"],
]


def texts(size, letters="abc"):
    return ["".join(row) for row in product(letters, repeat=size)]


class Shown(unittest.TestCase):
    def check_text(self, kind, words, text, least):
        told = (kind, words, text)
        band = Band.named(kind, Stamps(*words))
        self.assertIs(text in band, text in least, told)
        self.assertEqual(band.fewest(text), least.get(text), told)
        self.assertEqual(band.fewest(text=text), least.get(text), told)
        if text not in least:
            raised(self, NotPossible, band.splitting, text)
            return
        parts = band.splitting(text)
        self.assertTrue(model.is_splitting(kind, words, text, parts), (told, parts))
        self.assertEqual(len(parts), least[text], told)
        self.assertIs(band.is_splitting(text, parts), True, told)
        stampings = band.stampings_of(text, parts)
        self.assertEqual(len(stampings), len(parts))
        self.assertEqual(Band.named(kind, Stamps(*words)).splitting(text=text), parts)

    def check_words(self, kind, words, size):
        least = model.reachable(kind, size, words)
        for text in texts(size):
            self.check_text(kind, words, text, least)

    def test_a_line(self):
        for words in WORDS:
            for size in range(1, 6):
                self.check_words("line", words, size)

    def test_a_window(self):
        for words in WORDS:
            for size in range(1, 6):
                self.check_words("window", words, size)

    def test_a_ring(self):
        for words in WORDS:
            for size in range(1, 6):
                self.check_words("ring", words, size)

    def test_wider_words(self):
        for kind in model.KINDS:
            for words in (["abba"], ["abca", "bcab"], ["ababa"], ["abcabc", "bcabca"]):
                for size in (4, 5, 6):
                    self.check_words(kind, words, size)

    def test_a_ring_of_fewer_cells_than_a_word(self):
        for words in (["ab"], ["aa"], ["aba"], ["aaa", "aab"], ["aaaaaaaa"]):
            for size in range(1, len(words[0])):
                for text in texts(size, "ab"):
                    band = Band.named("ring", Stamps(*words))
                    self.assertIs(text in band, False)
                    self.assertIsNone(band.fewest(text))
                    raised(self, NotPossible, band.splitting, text)
                    for parts in ([], [(0, 0, 0, size)], [(0, 0, 0, len(words[0]))], [(0, 0, 0, len(text))]):
                        self.assertIs(band.is_splitting(text, parts), False)

    def test_a_ring_with_one_part(self):
        band = Band.named("ring", Stamps("abc"))
        for text, parts in (("abc", [(0, 0, 0, 3)]), ("cab", [(1, 0, 0, 3)]), ("bca", [(2, 0, 0, 3)])):
            self.assertIs(text in band, True)
            self.assertEqual(band.fewest(text), 1)
            self.assertEqual(band.splitting(text), parts)
            self.assertIs(band.is_splitting(text, parts), True)
            self.assertEqual(band.stampings_of(text, parts), [(0, parts[0][0])])
            for wrong in ([(0, 0, 0, 3)], [(1, 0, 0, 3)], [(2, 0, 0, 3)], [(3, 0, 0, 3)], [(-1, 0, 0, 3)]):
                self.assertIs(band.is_splitting(text, wrong), wrong == parts)

    def test_one_letter_words(self):
        for kind in model.KINDS:
            band = Band.named(kind, Stamps("a", "b"))
            for size in range(1, 6):
                for text in texts(size, "ab"):
                    wanted = [(at, "ab".index(text[at]), 0, 1) for at in range(size)]
                    self.assertEqual(band.splitting(text), wanted)
                    self.assertEqual(band.fewest(text), size)


class Splittings(unittest.TestCase):
    """Every list of parts that covers a short text is asked."""

    def check_words(self, kind, words, size, letters):
        band = Band.named(kind, Stamps(*words))
        every = list(model.coverings(kind, size, words))
        for text in texts(size, letters):
            found = 0
            for parts in every:
                wanted = model.is_splitting(kind, words, text, parts)
                self.assertIs(band.is_splitting(text, parts), wanted, (kind, words, text, parts))
                if wanted:
                    found += 1
                    self.check_splitting(kind, words, band, text, parts)
            self.assertIs(text in band, found > 0)

    def check_splitting(self, kind, words, band, text, parts):
        size = len(text)
        stampings = band.stampings_of(text, parts)
        self.assertEqual(band.stampings_of(parts=parts, text=text), stampings)
        self.assertIs(type(stampings), list)
        for (word, place), part in zip(stampings, parts):
            self.assertIs(band.fits(size, word, place), True)
            self.assertEqual(word, part[1])
            wanted = part[0] - part[2]
            self.assertEqual(place, wanted % size if kind == "ring" else wanted)
        orders = list(model.good_orders(kind, words, parts))
        self.assertTrue(orders)
        for order in orders:
            history = [stampings[index] for index in order]
            self.assertEqual(model.ended(kind, size, words, history), text)
            cells = model.seen(kind, size, words, history)
            for index, shown in zip(order, cells):
                self.assertEqual(shown, sorted(model.part_cells(kind, size, parts[index])))

    def test_a_line(self):
        for words, letters in ((["a"], "ab"), (["ab", "ba"], "ab"), (["aab"], "abc"), (["aab", "baa"], "ab")):
            for size in range(1, 5):
                self.check_words("line", words, size, letters)

    def test_a_window(self):
        for words, letters in ((["a"], "ab"), (["ab", "ba"], "ab"), (["aab"], "abc"), (["aab", "baa"], "ab")):
            for size in range(1, 5):
                self.check_words("window", words, size, letters)

    def test_a_ring(self):
        for words, letters in ((["a"], "ab"), (["ab", "ba"], "ab"), (["aab"], "abc"), (["aab", "baa"], "ab")):
            for size in range(1, 5):
                self.check_words("ring", words, size, letters)

    def test_five_cells(self):
        for kind in model.KINDS:
            self.check_words(kind, ["aba"], 5, "ab")
            self.check_words(kind, ["ab"], 5, "ab")

    def test_an_invalid_splitting_has_no_stampings(self):
        words = ["ab", "ba"]
        for kind in model.KINDS:
            band = Band.named(kind, Stamps(*words))
            for text in ("aba", "abab", "bba"):
                for parts in model.coverings(kind, len(text), words):
                    if not model.is_splitting(kind, words, text, parts):
                        raised(self, InvalidParts, band.stampings_of, text, parts)


if __name__ == "__main__":
    unittest.main()
