"""Points 2, 3, 4 and 8: the splittings of short strings, against every part at every place."""

import random
import unittest
from itertools import product

from overstamps.bands import Band
from overstamps.counting import count_fewest, count_splittings, nth_splitting, splitting_index, splittings
from overstamps.errors import InvalidNumber, InvalidParts
from overstamps.stamps import Stamps
from tests import model, ways
from tests.things import BIG, mirrored, raised, turned

WORDS = [
    ["a"], ["b", "a"], ["a", "b", "c"], ["ab"], ["aa"], ["ab", "ba"], ["aa", "ab"], ["ba", "aa", "ab"], ["aba"],
    ["abc"], ["aaa"], ["aab", "bab"], ["abb", "baa", "aba"], ["abc", "cab"],
]
WIDE = [["abba"], ["aaaa"], ["abab", "baba"], ["aaaa", "aaab", "abaa"], ["abca", "bcab"]]


def texts(words, size):
    letters = sorted(set("".join(words)))[:2] if size > 3 else sorted(set("".join(words)))
    return ["".join(row) for row in product(letters, repeat=size)]


class Counted(unittest.TestCase):
    def check_text(self, kind, words, text):
        told = (kind, words, text)
        band = Band.named(kind, Stamps(*words))
        every = ways.every_splitting(kind, words, text)
        self.assertEqual(list(splittings(band, text)), every, told)
        self.assertEqual(count_splittings(band, text), len(every), told)
        fewest = min([len(parts) for parts in every], default=None)
        self.assertEqual(count_fewest(band, text), len([parts for parts in every if len(parts) == fewest]), told)
        self.assertEqual(band.fewest(text), fewest, told)
        self.assertIs(text in band, len(every) > 0, told)
        if every:
            self.assertIn(band.splitting(text), every, told)
        step = 1 + len(every) // 40
        for index, parts in list(enumerate(every))[::step]:
            self.assertEqual(nth_splitting(band, text, index), parts, told)
            self.assertEqual(splitting_index(band, text, parts), index, told)
            self.assertIs(band.is_splitting(text, parts), True)
        for index in (-1, len(every), len(every) + 1, BIG, -BIG):
            raised(self, InvalidNumber, nth_splitting, band, text, index)

    def check_words(self, kind, words, sizes):
        for size in sizes:
            for text in texts(words, size):
                self.check_text(kind, words, text)

    def test_a_line(self):
        for words in WORDS:
            self.check_words("line", words, range(1, 6))

    def test_a_window(self):
        for words in WORDS:
            self.check_words("window", words, range(1, 6))

    def test_a_ring(self):
        for words in WORDS:
            self.check_words("ring", words, range(1, 6))

    def test_wider_words(self):
        chance = random.Random(8)
        for kind in model.KINDS:
            for words in WIDE:
                for size, many in ((4, 8), (5, 4), (6, 2)):
                    every = texts(words, size)
                    for text in chance.sample(every, min(many, len(every))):
                        self.check_text(kind, words, text)
                    self.check_text(kind, words, (words[-1] + words[0])[:size])

    def test_letters_that_no_word_has(self):
        for kind in model.KINDS:
            for words in (["ab"], ["a", "b"], ["aab", "baa"]):
                for text in ("z", "az", "za", "aza", "abz", "zab", "aabz", "abzab"):
                    self.check_text(kind, words, text)

    def test_drawn_words(self):
        chance = random.Random(9)
        for _ in range(300):
            kind = chance.choice(model.KINDS)
            width = chance.randint(1, 4)
            letters = chance.choice(["a", "ab", "ab", "abc"])
            words = sorted({"".join(chance.choice(letters) for _ in range(width)) for _ in range(chance.randint(1, 3))})
            chance.shuffle(words)
            text = "".join(chance.choice(letters) for _ in range(chance.randint(1, 6)))
            self.check_text(kind, words, text)


class InWords(unittest.TestCase):
    """The edges that the document names, written out."""

    def listed(self, kind, words, text):
        return list(splittings(Band.named(kind, Stamps(*words)), text))

    def test_ends_of_a_row(self):
        self.assertEqual(self.listed("line", ["ab"], "ab"), [[(0, 0, 0, 2)]])
        self.assertEqual(self.listed("window", ["ab"], "ab"), [[(0, 0, 0, 2)]])
        self.assertEqual(self.listed("line", ["ab"], "ba"), [])
        self.assertEqual(self.listed("window", ["ab"], "ba"), [[(0, 0, 1, 1), (1, 0, 0, 1)]])
        self.assertEqual(self.listed("window", ["ab"], "b"), [[(0, 0, 1, 1)]])
        self.assertEqual(self.listed("line", ["ab"], "b"), [])
        self.assertEqual(self.listed("line", ["ab"], "aab"), [[(0, 0, 0, 1), (1, 0, 0, 2)]])
        both = [[(0, 0, 0, 1), (1, 0, 0, 2)], [(0, 0, 0, 2), (2, 0, 1, 1)]]
        self.assertEqual(self.listed("line", ["aa"], "aaa"), both)

    def test_the_last_part_goes_on_at_cell_0(self):
        self.assertEqual(self.listed("ring", ["ab"], "baba"), [[(1, 0, 0, 2), (3, 0, 0, 2)]])
        self.assertEqual(self.listed("ring", ["ab"], "ba"), [[(1, 0, 0, 2)]])
        self.assertEqual(self.listed("ring", ["abc"], "cab"), [[(1, 0, 0, 3)]])
        self.assertEqual(self.listed("ring", ["ab"], "bab"), [[(0, 0, 1, 1), (1, 0, 0, 2)]])
        self.assertEqual(self.listed("ring", ["ab"], "abb"), [[(0, 0, 0, 2), (2, 0, 1, 1)]])
        self.assertEqual(self.listed("ring", ["ab"], "bba"), [[(1, 0, 1, 1), (2, 0, 0, 2)]])

    def test_one_part_at_each_place(self):
        self.assertEqual(self.listed("ring", ["aaa"], "aaa"), [[(0, 0, 0, 3)], [(1, 0, 0, 3)], [(2, 0, 0, 3)]])
        for width in range(1, 9):
            band = Band.named("ring", Stamps("a" * width))
            self.assertEqual(count_splittings(band, "a" * width), width)
            self.assertEqual(count_fewest(band, "a" * width), width)
            for index in range(width):
                parts = [(index, 0, 0, width)]
                self.assertEqual(nth_splitting(band, "a" * width, index), parts)
                self.assertEqual(splitting_index(band, "a" * width, parts), index)

    def test_rings_of_fewer_cells_than_a_word(self):
        for width in range(2, 9):
            for size in range(1, width):
                for words in (["a" * width], ["a" * width, "a" * (width - 1) + "b"]):
                    band = Band.named("ring", Stamps(*words))
                    text = words[0][:size]
                    self.assertEqual(count_splittings(band, text), 0)
                    self.assertEqual(count_fewest(band, text), 0)
                    self.assertEqual(list(splittings(band, text)), [])
                    for index in (0, 1, -1):
                        raised(self, InvalidNumber, nth_splitting, band, text, index)
                    for parts in ([], [(0, 0, 0, size)], [(0, 0, 0, len(words[0]))]):
                        raised(self, InvalidParts, splitting_index, band, text, parts)

    def test_a_whole_part_is_needed_on_a_ring(self):
        self.assertEqual(self.listed("ring", ["ab"], "aa"), [])
        self.assertEqual(self.listed("ring", ["aba"], "aaa"), [])
        self.assertEqual(len(self.listed("window", ["aba"], "aaa")), len(ways.every_splitting("window", ["aba"], "aaa")))


class Compared(unittest.TestCase):
    def drawn(self):
        chance = random.Random(11)
        for _ in range(150):
            width = chance.randint(1, 4)
            letters = chance.choice(["ab", "ab", "abc"])
            words = sorted({"".join(chance.choice(letters) for _ in range(width)) for _ in range(chance.randint(1, 3))})
            text = "".join(chance.choice(letters) for _ in range(chance.randint(1, 12)))
            yield chance.choice(model.KINDS), words, text

    def numbers(self, kind, words, text):
        band = Band.named(kind, Stamps(*words))
        return count_splittings(band, text), count_fewest(band, text)

    def test_read_backward(self):
        for kind, words, text in self.drawn():
            backward = [word[::-1] for word in words]
            self.assertEqual(self.numbers(kind, words, text), self.numbers(kind, backward, text[::-1]))
            band, mirror = Band.named(kind, Stamps(*words)), Band.named(kind, Stamps(*backward))
            many = count_splittings(band, text)
            if many:
                parts = mirrored(nth_splitting(band, text, many // 2), len(text), len(words[0]))
                index = splitting_index(mirror, text[::-1], parts)
                self.assertEqual(nth_splitting(mirror, text[::-1], index), parts)

    def test_other_letters(self):
        other = str.maketrans("abc", "zxq")
        for kind, words, text in self.drawn():
            renamed = [word.translate(other) for word in words]
            self.assertEqual(self.numbers(kind, words, text), self.numbers(kind, renamed, text.translate(other)))

    def test_words_in_another_order(self):
        for kind, words, text in self.drawn():
            self.assertEqual(self.numbers(kind, words, text), self.numbers(kind, words[::-1], text))

    def test_one_word_more(self):
        chance = random.Random(12)
        for kind, words, text in self.drawn():
            word = "".join(chance.choice("ab") for _ in words[0])
            if word not in words:
                self.assertGreaterEqual(self.numbers(kind, words + [word], text)[0], self.numbers(kind, words, text)[0])

    def test_a_window_has_at_least_as_many_as_a_line(self):
        for _, words, text in self.drawn():
            self.assertGreaterEqual(self.numbers("window", words, text)[0], self.numbers("line", words, text)[0])

    def test_a_ring_that_is_turned(self):
        for _, words, text in self.drawn():
            band = Band.named("ring", Stamps(*words))
            for far in range(len(text)):
                other = text[far:] + text[:far]
                self.assertEqual(self.numbers("ring", words, other), self.numbers("ring", words, text))
                if text in band:
                    parts = turned(band.splitting(text), len(text), far)
                    index = splitting_index(band, other, parts)
                    self.assertEqual(nth_splitting(band, other, index), parts)

    def test_splittings_and_indexes_agree(self):
        for kind, words, text in self.drawn():
            band = Band.named(kind, Stamps(*words))
            for parts in model.coverings(kind, min(len(text), 3), words):
                self.check_parts(band, text[:3], parts)

    def check_parts(self, band, text, parts):
        if band.is_splitting(text, parts):
            self.assertEqual(nth_splitting(band, text, splitting_index(band, text, parts)), parts)
        else:
            raised(self, InvalidParts, splitting_index, band, text, parts)


if __name__ == "__main__":
    unittest.main()
