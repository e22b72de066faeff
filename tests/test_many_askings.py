"""Points 2, 3, 4 and 7: long texts are asked many times, so that no asking may take much work."""

import random
import sys
import unittest

from overstamps.bands import Band
from overstamps.stamps import Stamps
from tests import model, ways
from tests.things import drawn_stamps, filled_by_history, filled_sparsely, most_cells

SLOWEST = [
    ("ring", ["aaaaaaaa", "aaaaaaab", "aaaabaaa", "abaaaaaa"], "a" * 60, 8),
    ("ring", ["aaaaaa", "aaaaab", "aaaaba", "aaabaa", "aabaaa", "abaaaa"], "a" * 60, 10),
    ("ring", ["aaaa", "aaab", "aaba"], "a" * 60, 15),
    ("line", ["aaaaaaaa", "aaaaaaab", "aaaabaaa", "abaaaaaa"], "a" * 120, 15),
    ("window", ["aaaaaa", "aaaaab", "aaaaba", "aaabaa", "aabaaa", "abaaaa"], "a" * 120, 20),
]

# Texts on which each place, or nearly each, is one where a whole part can stand.
HARD = [
    ("ring", ["a"], "a" * 60), ("ring", ["a", "b"], "ab" * 29 + "a"), ("ring", ["a", "b"], "ab" * 29 + "ac"),
    ("ring", ["ab", "ba", "aa"], "abababaaaaababaabaaaabbaababaaababaaaabbaababaabbbaabaabbaab"),
    ("ring", ["bbb", "abb", "bba", "bab"], "abbbbabbbabbbbabbabbabbabbabbabbbbababbabbbabbbababababbabbb"),
    ("ring", ["baaaaa", "aaaaaa"], "aaaaaabaabaaaaaabaaaaaaaaaabaaaaaaaaaaaaaaabaaaaaaaaaaaaaaaa"),
    ("ring", ["aaaaaaaa", "baaaaaaa"], "a" * 58 + "bb"), ("ring", ["aaaaaaaa", "aaaaaaba"], "a" * 59 + "b"),
    ("line", ["ab", "ba", "aa"], "abbabaabab" * 12), ("window", ["ab", "ba", "aa"], "abbabaabab" * 12),
    ("line", ["a", "b", "c", "d", "e", "f"], "abcdef" * 20), ("window", ["aaaaaaaa", "baaaaaaa"], "a" * 118 + "bb"),
]


def steps_of(call, *given):
    """How many functions are called on the way to an answer, those of Python included."""
    many = 0

    def count(frame, event, argument):
        nonlocal many
        if event in ("call", "c_call"):
            many += 1

    sys.setprofile(count)
    try:
        call(*given)
    finally:
        sys.setprofile(None)
    return many


class Work(unittest.TestCase):
    def check(self, kind, words, text, most):
        band = Band.named(kind, Stamps(*words))
        self.assertLess(steps_of(band.fewest, text), most, (kind, words, text))
        self.assertLess(steps_of(band.__contains__, text), most, (kind, words, text))
        if text in band:
            self.assertLess(steps_of(band.splitting, text), 2 * most, (kind, words, text))
            parts = band.splitting(text)
            self.assertLess(steps_of(band.stampings_of, text, parts), 30 * len(parts) + 100)

    def test_the_slowest_ones(self):
        for kind, words, text, fewest in SLOWEST:
            self.assertEqual(Band.named(kind, Stamps(*words)).fewest(text), fewest)
            self.assertEqual(len(Band.named(kind, Stamps(*words)).splitting(text)), fewest)
            self.check(kind, words, text, 2000)

    def test_many_places_for_whole_parts(self):
        for kind, words, text in HARD:
            self.check(kind, words, text, 8000)


class Answers(unittest.TestCase):
    def test_hard_texts_against_a_second_way(self):
        for kind, words, text in HARD:
            fewest = min(ways.counted(kind, words, text), default=None)
            self.assertEqual(Band.named(kind, Stamps(*words)).fewest(text), fewest, (kind, words, text))

    def drawn_texts(self, rounds):
        chance = random.Random(21)
        for turn in range(rounds):
            words = drawn_stamps(chance)
            for kind in model.KINDS:
                size = chance.choice([most_cells(kind), chance.randint(len(words[0]), most_cells(kind))])
                fill = chance.choice([filled_by_history, filled_sparsely])
                text = fill(kind, size, words, turn)[1]
                at = chance.randrange(size)
                yield kind, words, text
                yield kind, words, text[:at] + chance.choice("".join(words)) + text[at + 1:]
                yield kind, words, "".join(chance.choice("".join(words)) for _ in range(size))

    def test_many_texts(self):
        for kind, words, text in self.drawn_texts(250):
            told = (kind, words, text)
            band = Band.named(kind, Stamps(*words))
            fewest = band.fewest(text)
            self.assertIs(text in band, fewest is not None, told)
            if fewest is not None:
                parts = band.splitting(text)
                self.assertEqual(len(parts), fewest, told)
                self.assertTrue(model.is_splitting(kind, words, text, parts), told)
                self.assertIs(band.is_splitting(text, parts), True, told)
                self.assertEqual(len(band.stampings_of(text, parts)), fewest)

    def test_the_least_numbers(self):
        for kind, words, text in self.drawn_texts(25):
            fewest = min(ways.counted(kind, words, text), default=None)
            self.assertEqual(Band.named(kind, Stamps(*words)).fewest(text), fewest, (kind, words, text))


if __name__ == "__main__":
    unittest.main()
