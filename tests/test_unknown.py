"""Points 2, 4, 5 and 11: patterns with unreadable cells."""

import copy
import inspect
import random
import re
import unittest
from itertools import product

from overstamps import unknown
from overstamps.bands import Band
from overstamps.errors import InvalidText, NotPossible
from overstamps.stamps import Stamps
from overstamps.unknown import can_fill, fewest_fill, least_fill, possible_letters
from tests import ways
from tests.things import drawn_stamps, filled_by_history, filled_sparsely, long_stamps, odd_things, raised

KINDS = ("line", "window")
CALLS = (can_fill, least_fill, fewest_fill, possible_letters)


def short_patterns(seed, rounds):
    chance = random.Random(seed)
    for _ in range(rounds):
        width = chance.randint(1, 4)
        letters = chance.choice(["a", "ab", "ab", "abc"])
        words = sorted({"".join(chance.choice(letters) for _ in range(width)) for _ in range(chance.randint(1, 3))})
        chance.shuffle(words)
        signs = chance.choice([letters + "??", letters + "????", "?", letters, letters + "?z"])
        pattern = "".join(chance.choice(signs) for _ in range(chance.randint(1, 6)))
        for kind in KINDS:
            yield kind, words, pattern


def long_patterns(seed, rounds):
    """Patterns of texts that stampings leave with many, few or no unreadable cells, and some with a letter changed."""
    chance = random.Random(seed)
    for words in long_stamps() + [drawn_stamps(chance) for _ in range(rounds)]:
        for kind in KINDS:
            fill = chance.choice([filled_by_history, filled_sparsely])
            size = chance.choice([120, 120, 119, chance.randint(1, 120)])
            text = fill(kind, max(size, len(words[0])), words, chance.randint(0, 1000))[1]
            for share in (0.05, 0.5, 0.9, 0, 1):
                signs = ["?" if chance.random() < share else sign for sign in text]
                yield kind, words, "".join(signs)
                at = chance.randrange(len(text))
                signs[at] = chance.choice("".join(words) + "x")
                yield kind, words, "".join(signs)


class ShortPatterns(unittest.TestCase):
    def test_against_all_texts(self):
        fits = set()
        for kind, words, pattern in short_patterns(1, 400):
            told = (kind, words, pattern)
            band = Band.named(kind, Stamps(*words))
            letters = sorted(set("".join(words)))
            every = ["".join(row) for row in product(*[letters if sign == "?" else sign for sign in pattern])]
            texts = [text for text in every if text in band]
            fits.add(len(texts) > 0)
            self.assertIs(can_fill(band, pattern), len(texts) > 0, told)
            self.assertEqual(fewest_fill(band, pattern), min([band.fewest(text) for text in texts], default=None), told)
            self.assertEqual(ways.fewest_filled(kind, words, pattern), fewest_fill(band, pattern), told)
            wanted = [
                "".join(sorted({text[at] for text in texts})) for at, sign in enumerate(pattern) if sign == "?"
            ]
            self.assertEqual(possible_letters(band, pattern), wanted, told)
            if texts:
                self.assertEqual(least_fill(band, pattern), min(texts), told)
            else:
                raised(self, NotPossible, least_fill, band, pattern)
        self.assertEqual(fits, {True, False})

    def test_in_words(self):
        line, window = (Band.named(kind, Stamps("ab", "ca")) for kind in KINDS)
        self.assertEqual(possible_letters(line, "??"), ["ac", "ab"])
        self.assertEqual(possible_letters(line, "?a"), ["c"])
        self.assertEqual(possible_letters(line, "a?"), ["b"])
        self.assertEqual(possible_letters(line, "?"), [""])
        self.assertEqual(possible_letters(window, "?"), ["abc"])
        self.assertEqual(possible_letters(line, "ab"), [])
        self.assertEqual(possible_letters(line, "ba"), [])
        self.assertEqual(possible_letters(line, "b?"), [""])
        self.assertEqual(possible_letters(line, "??z"), ["", ""])
        self.assertEqual(least_fill(line, "??"), "ab")
        self.assertEqual(least_fill(line, "???"), "aab")
        self.assertEqual(least_fill(window, "???"), "aaa")
        self.assertEqual(least_fill(line, "??a"), "aba")
        self.assertEqual(fewest_fill(line, "???"), 2)
        self.assertEqual(fewest_fill(line, "????"), 2)
        self.assertEqual(fewest_fill(window, "???"), 2)
        self.assertEqual(fewest_fill(window, "??"), 1)
        self.assertIsNone(fewest_fill(line, "?"))
        self.assertIs(can_fill(line, "?"), False)
        self.assertIs(can_fill(window, "?"), True)
        raised(self, NotPossible, least_fill, line, "?")
        raised(self, NotPossible, least_fill, line, "z")
        raised(self, NotPossible, least_fill, line, "b?")


class LongPatterns(unittest.TestCase):
    def test_numbers_against_a_second_way(self):
        for kind, words, pattern in long_patterns(2, 10):
            band = Band.named(kind, Stamps(*words))
            wanted = ways.fewest_filled(kind, words, pattern)
            self.assertEqual(fewest_fill(band, pattern), wanted, (kind, words, pattern))
            self.assertIs(can_fill(band, pattern), wanted is not None, (kind, words, pattern))

    def test_the_least_text(self):
        for kind, words, pattern in long_patterns(3, 3):
            told = (kind, words, pattern)
            band = Band.named(kind, Stamps(*words))
            if not can_fill(band, pattern):
                raised(self, NotPossible, least_fill, band, pattern)
                continue
            text = least_fill(band, pattern)
            self.assertIn(text, band, told)
            self.assertTrue(re.fullmatch(pattern.replace("?", "[a-z]"), text), told)
            self.assertGreaterEqual(band.fewest(text), fewest_fill(band, pattern))
            letters = sorted(set("".join(words)))
            for at in [place for place, sign in enumerate(pattern) if sign == "?"][::5]:
                for letter in letters[:letters.index(text[at])]:
                    less = text[:at] + letter + pattern[at + 1:]
                    self.assertIsNone(ways.fewest_filled(kind, words, less), (told, less))

    def test_letters(self):
        chance = random.Random(4)
        for kind, words, pattern in long_patterns(5, 2):
            band = Band.named(kind, Stamps(*words))
            found = possible_letters(band, pattern)
            cells = [at for at, sign in enumerate(pattern) if sign == "?"]
            self.assertEqual(len(found), len(cells))
            for index in chance.sample(range(len(cells)), min(6, len(cells))):
                wanted = ""
                for letter in sorted(set("".join(words))):
                    other = pattern[:cells[index]] + letter + pattern[cells[index] + 1:]
                    if ways.fewest_filled(kind, words, other) is not None:
                        wanted += letter
                self.assertEqual(found[index], wanted, (kind, words, pattern, cells[index]))

    def test_without_unreadable_cells(self):
        for kind, words, pattern in long_patterns(6, 4):
            text = pattern.replace("?", words[0][0])
            band = Band.named(kind, Stamps(*words))
            self.assertIs(can_fill(band, text), text in band)
            self.assertEqual(fewest_fill(band, text), band.fewest(text))
            self.assertEqual(possible_letters(band, text), [])
            if text in band:
                self.assertEqual(least_fill(band, text), text)
            else:
                raised(self, NotPossible, least_fill, band, text)

    def test_unreadable_cells_alone(self):
        for words in long_stamps():
            width = len(words[0])
            for size in (1, width - 1, width, width + 1, 119, 120):
                if size < 1:
                    continue
                line, window = (Band.named(kind, Stamps(*words)) for kind in KINDS)
                self.assertIs(can_fill(window, "?" * size), True)
                self.assertIs(can_fill(line, "?" * size), size >= width)
                fewest = -(-size // width)
                self.assertEqual(fewest_fill(line, "?" * size), fewest if size >= width else None)
                # On a window a word can be cut off at both ends, and whole words stand between.
                self.assertEqual(fewest_fill(window, "?" * size), fewest)
                letters = possible_letters(window, "?" * size)
                self.assertEqual(letters, ["".join(sorted(set("".join(words))))] * size)

    def test_letters_that_no_word_has(self):
        for kind in KINDS:
            band = Band.named(kind, Stamps("abc", "bca"))
            for pattern in ("x", "?x", "x?", "?x?", "?" * 119 + "x", "x" + "?" * 119, "abc?x?abc"):
                self.assertIs(can_fill(band, pattern), False)
                self.assertIsNone(fewest_fill(band, pattern))
                self.assertEqual(possible_letters(band, pattern), [""] * pattern.count("?"))
                raised(self, NotPossible, least_fill, band, pattern)


class Errors(unittest.TestCase):
    def bad_patterns(self):
        more = ["?" * 121, "a" * 121, "a" * 4000, "?" * 4000, ".", "?.", "a.b", "A", "?A", "a b", "? ", " ?", "?\n", "\n"]
        more += ["??-", "a,?", "!", "*", "a1?", "0", ["?"], ("?",), {"?": "?"}, [["?"]], "?" * 120 + "\n"]
        return [
            thing for thing in odd_things() + more
            if not (isinstance(thing, str) and re.fullmatch("[a-z?]{1,120}", thing) and "\n" not in thing)
        ]

    def test_patterns(self):
        for kind in KINDS:
            band = Band.named(kind, Stamps("ab", "ba"))
            for wrong in self.bad_patterns():
                for call in CALLS:
                    raised(self, InvalidText, call, band, wrong)
                    raised(self, InvalidText, call, text=wrong, band=band)
            for right in ("?", "a", "z", "?" * 120, "a" * 120, "a?"):
                for call in (can_fill, fewest_fill, possible_letters):
                    call(band, right)

    def test_other_calls_take_no_patterns(self):
        for kind in KINDS:
            band = Band.named(kind, Stamps("ab", "ba"))
            self.assertNotIn("a?", band)
            raised(self, InvalidText, band.fewest, "a?")

    def test_new_lists(self):
        for kind in KINDS:
            band = Band.named(kind, Stamps("ab", "ba"))
            found = possible_letters(band, "????")
            kept = copy.copy(found)
            found.clear()
            self.assertEqual(possible_letters(band, "????"), kept)
            self.assertEqual(possible_letters(Band.named(kind, Stamps("ab", "ba")), "????"), kept)

    def test_by_position_and_by_name(self):
        for kind in KINDS:
            band = Band.named(kind, Stamps("ab", "ba"))
            for call in CALLS:
                self.assertEqual(call(text="a??b", band=band), call(band, "a??b"))

    def test_kinds_of_results(self):
        for kind in KINDS:
            band = Band.named(kind, Stamps("ab", "ba"))
            self.assertIs(type(can_fill(band, "a?")), bool)
            self.assertIs(type(least_fill(band, "a?")), str)
            self.assertIs(type(fewest_fill(band, "a?")), int)
            self.assertIs(type(possible_letters(band, "a?")), list)
            self.assertEqual([type(letters) for letters in possible_letters(band, "a?z?")], [str, str])

    def test_names_and_arguments(self):
        for name in ("can_fill", "least_fill", "fewest_fill", "possible_letters"):
            function = getattr(unknown, name)
            self.assertEqual(function.__module__, "overstamps.unknown")
            self.assertEqual(list(inspect.signature(function).parameters), ["band", "text"])


if __name__ == "__main__":
    unittest.main()
