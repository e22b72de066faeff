"""Points 2, 3, 4 and 7: texts up to the limits that the document names, and lists that are nearly splittings."""

import copy
import random
import unittest

from overstamps.bands import Band, Line, Ring, Window
from overstamps.errors import InvalidParts, NotPossible
from overstamps.stamps import Stamps
from tests import model
from tests.things import BIG, filled_by_history, filled_sparsely, long_stamps, odd_things, raised


def sizes(kind):
    return (9, 33, 59, 60) if kind == "ring" else (9, 60, 119, 120)


def long_texts():
    """Each kind of band with words, a text, and the history that leaves it."""
    for kind in model.KINDS:
        for words in long_stamps():
            for size in sizes(kind):
                for seed, fill in ((1, filled_by_history), (2, filled_sparsely)):
                    history, text = fill(kind, size, words, seed)
                    yield kind, words, text, history


def changed_numbers(parts, chance):
    """The lists with one number changed."""
    for index in chance.sample(range(len(parts)), min(8, len(parts))):
        for at in range(4):
            for number in (-1, 1, 2, -2, 7, 60, 120, BIG, -BIG):
                part = list(parts[index])
                part[at] += number
                yield parts[:index] + [tuple(part)] + parts[index + 1:]


def rearranged(parts, size, chance):
    """The lists with a part more, less, cut in two, joined to the next one, moved or exchanged."""
    for index in chance.sample(range(len(parts)), min(8, len(parts))):
        place, word, offset, length = parts[index]
        yield parts[:index] + parts[index + 1:]
        yield parts[:index] + [parts[index]] + parts[index:]
        yield parts + [parts[index]]
        yield [parts[index]] + parts
        for cut in range(1, length):
            halves = [(place, word, offset, cut), ((place + cut) % size, word, offset + cut, length - cut)]
            yield parts[:index] + halves + parts[index + 1:]
            yield sorted(parts[:index] + halves + parts[index + 1:])
        for other in range(len(parts)):
            exchanged = list(parts)
            exchanged[index], exchanged[other] = exchanged[other], exchanged[index]
            yield exchanged
        if index + 1 < len(parts):
            longer = (place, word, offset, length + parts[index + 1][3])
            yield parts[:index] + [longer] + parts[index + 2:]
        for far in (-size, -1, 1, size):
            yield parts[:index] + [(place + far, word, offset, length)] + parts[index + 1:]
            yield [(part[0] + far,) + part[1:] for part in parts]
    yield parts[1:] + parts[:1]
    yield parts[::-1]
    yield parts + parts
    yield []


def empty_parts(words, parts, chance):
    """The lists with parts of no cells, or of fewer, that go on where the part before them stops."""
    width = len(words[0])
    for index in chance.sample(range(len(parts)), min(8, len(parts))):
        place, word, offset, length = parts[index]
        for at in range(width + 1):
            yield parts[:index] + [(place, word, at, 0)] + parts[index:]
            yield parts[:index + 1] + [(place + length, word, at, 0)] + parts[index + 1:]
        back = [(place + length, word, width + 1, -1), (place + length - 1, word, offset + length - 1, 1)]
        yield parts[:index + 1] + back + parts[index + 1:]


def named_from_elsewhere(parts, size):
    """The lists that say the same of a ring if cells are counted on over its end, or back over its beginning."""
    first, last = parts[0], parts[-1]
    yield parts[1:] + [(first[0] + size,) + first[1:]]
    yield [(last[0] - size,) + last[1:]] + parts[:-1]
    for far in (-3 * size, -2 * size, -size, size, 2 * size):
        yield [(part[0] + far,) + part[1:] for part in parts]


def other_kinds(parts):
    """Objects of other kinds that look like the parts."""
    yield tuple(parts)
    yield [list(part) for part in parts]
    yield [parts]
    yield {"parts": parts}
    yield str(parts)
    for index in (0, len(parts) // 2, len(parts) - 1):
        part = parts[index]
        for thing in (list(part), part[:3], part + (0,), (part,), (), None, True, 0, "abcd", {}, str(part), [part]):
            yield parts[:index] + [thing] + parts[index + 1:]
        for at in range(4):
            for worth in (None, True, False, str(part[at]), [part[at]], (part[at],), {}, "0"):
                yield parts[:index] + [part[:at] + (worth,) + part[at + 1:]] + parts[index + 1:]


class Long(unittest.TestCase):
    def test_what_a_history_leaves_can_be_shown(self):
        for kind, words, text, history in long_texts():
            told = (kind, words, text)
            band = Band.named(kind, Stamps(*words))
            self.assertIs(text in band, True, told)
            many = band.fewest(text)
            self.assertLessEqual(many, len(history), told)
            seen = [cells for cells in model.seen(kind, len(text), words, history) if cells]
            self.assertLessEqual(many, len(seen), told)
            parts = band.splitting(text)
            self.assertEqual(len(parts), many, told)
            self.assertTrue(model.is_splitting(kind, words, text, parts), told)
            self.assertIs(band.is_splitting(text, parts), True, told)

    def test_the_number_is_the_least_one(self):
        for kind, words, text, _ in long_texts():
            if kind != "ring" or len(text) <= 33:
                self.assertEqual(Band.named(kind, Stamps(*words)).fewest(text), model.fewest(kind, words, text))

    def test_the_stampings_show_the_parts(self):
        for kind, words, text, _ in long_texts():
            band = Band.named(kind, Stamps(*words))
            size = len(text)
            parts = band.splitting(text)
            stampings = band.stampings_of(text, parts)
            order = model.good_order(kind, words, parts)
            history = [stampings[index] for index in order]
            for word, place in stampings:
                self.assertTrue(model.fits(kind, size, words, word, place))
                self.assertTrue(kind != "ring" or 0 <= place < size)
            self.assertEqual(model.ended(kind, size, words, history), text)
            self.assertEqual(list(band.replay(size, history))[-1], text)
            for index, shown in zip(order, model.seen(kind, size, words, history)):
                self.assertEqual(shown, sorted(model.part_cells(kind, size, parts[index])))

    def test_one_letter_changed(self):
        chance = random.Random(3)
        for kind, words, text, _ in long_texts():
            band = Band.named(kind, Stamps(*words))
            for letter in ("z", chance.choice("abcdef"), chance.choice("ab")):
                at = chance.randrange(len(text))
                self.check_changed(kind, words, band, text[:at] + letter + text[at + 1:])

    def check_changed(self, kind, words, band, text):
        told = (kind, words, text)
        can = model.peels(kind, words, text)
        self.assertIs(text in band, can, told)
        if can:
            parts = band.splitting(text)
            self.assertTrue(model.is_splitting(kind, words, text, parts), told)
            self.assertEqual(band.fewest(text), len(parts), told)
        else:
            self.assertIsNone(band.fewest(text), told)
            raised(self, NotPossible, band.splitting, text)

    def test_equal_arguments_give_equal_results(self):
        for kind, words, text, _ in long_texts():
            one, other = Band.named(kind, Stamps(*words)), Band.named(kind, Stamps.of(words))
            parts = one.splitting(text)
            again = one.splitting(text)
            self.assertEqual(parts, again)
            self.assertIsNot(parts, again)
            again.clear()
            self.assertEqual(one.splitting(text), parts)
            self.assertEqual(other.splitting(text), parts)
            self.assertEqual(other.fewest(text), one.fewest(text))
            stampings = one.stampings_of(text, parts)
            self.assertEqual(other.stampings_of(text, parts), stampings)
            self.assertIsNot(one.stampings_of(text, parts), stampings)

    def test_results_do_not_depend_on_earlier_calls(self):
        line = Line(Stamps("ab", "ba"))
        first = line.splitting("abba")
        for text in ("baab", "abab", "ab", "zz", ""):
            self.assertIsInstance(text in line, bool)
        self.assertEqual(line.splitting("abba"), first)

    def test_kinds_of_results(self):
        for kind, words, text, _ in long_texts():
            band = Band.named(kind, Stamps(*words))
            parts = band.splitting(text)
            self.assertIs(type(band.fewest(text)), int)
            self.assertIs(type(parts), list)
            for part in parts:
                self.assertIs(type(part), tuple)
                self.assertEqual([type(number) for number in part], [int] * 4)
            for stamping in band.stampings_of(text, parts):
                self.assertIs(type(stamping), tuple)
                self.assertEqual([type(number) for number in stamping], [int] * 2)

    def test_repeated_letters_leave_long_ways(self):
        stamps = Stamps("aaaaaaaa")
        self.assertEqual(Line(stamps).fewest("a" * 120), 15)
        self.assertEqual(Line(stamps).fewest("a" * 113), 15)
        self.assertEqual(Line(stamps).fewest("a" * 112), 14)
        self.assertIsNone(Line(stamps).fewest("a" * 7))
        self.assertEqual(Window(stamps).fewest("a" * 7), 1)
        self.assertEqual(Window(stamps).fewest("a" * 120), 15)
        self.assertEqual(Ring(stamps).fewest("a" * 60), 8)
        self.assertEqual(Ring(stamps).fewest("a" * 8), 1)
        self.assertEqual(Ring(stamps).fewest("a" * 9), 2)
        self.assertIsNone(Ring(stamps).fewest("a" * 7))


class NearlySplittings(unittest.TestCase):
    def texts(self):
        for kind in model.KINDS:
            for words in (["ab", "ba", "aa"], ["abcd", "bcda"], ["aab", "bab"], ["a", "b"], ["abcdefgh"], ["aaaa"]):
                for size in (8, 9, 25):
                    yield kind, words, filled_sparsely(kind, size, words, 5)[1]

    def check(self, kind, words, band, text, thing):
        before = copy.deepcopy(thing)
        wanted = model.is_splitting(kind, words, text, thing)
        self.assertIs(band.is_splitting(text, thing), wanted, (kind, words, text, thing))
        self.assertEqual(thing, before)
        if wanted:
            self.assertEqual(len(band.stampings_of(text, thing)), len(thing))
        else:
            raised(self, InvalidParts, band.stampings_of, text, thing)

    def test_changed_lists(self):
        chance = random.Random(4)
        for kind, words, text in self.texts():
            band = Band.named(kind, Stamps(*words))
            parts = band.splitting(text)
            for thing in changed_numbers(parts, chance):
                self.check(kind, words, band, text, thing)
            for thing in rearranged(parts, len(text), chance):
                self.check(kind, words, band, text, thing)

    def test_parts_of_no_cells(self):
        chance = random.Random(7)
        for kind, words, text in self.texts():
            band = Band.named(kind, Stamps(*words))
            for thing in empty_parts(words, band.splitting(text), chance):
                self.assertIs(band.is_splitting(text, thing), False, (kind, words, text, thing))
                self.check(kind, words, band, text, thing)

    def test_cells_counted_on(self):
        for kind, words, text in self.texts():
            band = Band.named(kind, Stamps(*words))
            for thing in named_from_elsewhere(band.splitting(text), len(text)):
                self.assertIs(band.is_splitting(text, thing), False, (kind, words, text, thing))
                self.check(kind, words, band, text, thing)

    def test_other_kinds(self):
        for kind, words, text in self.texts():
            band = Band.named(kind, Stamps(*words))
            for thing in other_kinds(band.splitting(text)):
                self.assertIs(band.is_splitting(text, thing), False, (kind, words, text, thing))
                raised(self, InvalidParts, band.stampings_of, text, thing)

    def test_any_object(self):
        for kind, words, text in self.texts():
            band = Band.named(kind, Stamps(*words))
            for thing in odd_things() + [[], [(0, 0, 0, 1)] * 2999, text, band, band.stamps, [band], [text]]:
                self.assertIs(band.is_splitting(text, thing), False)
                self.assertIs(band.is_splitting(thing=thing, text=text), False)

    def test_booleans_are_no_integers(self):
        for kind in model.KINDS:
            band = Band.named(kind, Stamps("b", "a"))
            self.assertIs(band.is_splitting("ba", [(0, 0, 0, 1), (1, 1, 0, 1)]), True)
            for first in ((False, 0, 0, 1), (0, False, 0, 1), (0, 0, False, 1), (0, 0, 0, True)):
                self.assertIs(band.is_splitting("ba", [first, (1, 1, 0, 1)]), False)
            for second in ((True, 1, 0, 1), (1, True, 0, 1), (1, 1, False, 1), (1, 1, 0, True)):
                self.assertIs(band.is_splitting("ba", [(0, 0, 0, 1), second]), False)

    def test_seams_and_ends_in_words(self):
        stamps = Stamps("abc", "xyz")
        line, window, ring = Line(stamps), Window(stamps), Ring(stamps)
        whole = [(0, 0, 0, 3), (3, 1, 0, 3)]
        for band in (line, window, ring):
            self.assertIs(band.is_splitting("abcxyz", whole), True)
            self.assertIs(band.is_splitting("abxyz", [(0, 0, 0, 2), (2, 1, 0, 3)]), True)
            self.assertIs(band.is_splitting("abcyz", [(0, 0, 0, 3), (3, 1, 1, 2)]), True)
            self.assertIs(band.is_splitting("abyz", [(0, 0, 0, 2), (2, 1, 1, 2)]), False)
            self.assertIs(band.is_splitting("abc", [(0, 0, 0, 1), (1, 0, 1, 2)]), False)
        self.assertIs(line.is_splitting("bcxyz", [(0, 0, 1, 2), (2, 1, 0, 3)]), False)
        self.assertIs(window.is_splitting("bcxyz", [(0, 0, 1, 2), (2, 1, 0, 3)]), True)
        self.assertIs(ring.is_splitting("bcxyz", [(0, 0, 1, 2), (2, 1, 0, 3)]), True)
        self.assertIs(line.is_splitting("abcxy", [(0, 0, 0, 3), (3, 1, 0, 2)]), False)
        self.assertIs(window.is_splitting("abcxy", [(0, 0, 0, 3), (3, 1, 0, 2)]), True)
        self.assertIs(window.is_splitting("b", [(0, 0, 1, 1)]), True)
        self.assertIs(line.is_splitting("b", [(0, 0, 1, 1)]), False)
        # The seam between the last part and the first one, and the need for a whole part.
        self.assertIs(ring.is_splitting("bcabcxy", [(0, 0, 1, 2), (2, 0, 0, 3), (5, 1, 0, 2)]), False)
        self.assertIs(window.is_splitting("bcabcxy", [(0, 0, 1, 2), (2, 0, 0, 3), (5, 1, 0, 2)]), True)
        self.assertIs(ring.is_splitting("abab", [(0, 0, 0, 2), (2, 0, 0, 2)]), False)
        self.assertIs(window.is_splitting("abab", [(0, 0, 0, 2), (2, 0, 0, 2)]), True)
        # The last part goes on at cell 0.
        self.assertIs(ring.is_splitting("zabcxy", [(1, 0, 0, 3), (4, 1, 0, 3)]), True)
        self.assertIs(ring.is_splitting("zabcxy", [(4, 1, 0, 3), (1, 0, 0, 3)]), False)
        self.assertEqual(ring.stampings_of("zabcxy", [(1, 0, 0, 3), (4, 1, 0, 3)]), [(0, 1), (1, 4)])
        self.assertEqual(ring.stampings_of("bcxyz", [(0, 0, 1, 2), (2, 1, 0, 3)]), [(0, 4), (1, 2)])
        self.assertEqual(window.stampings_of("bcxyz", [(0, 0, 1, 2), (2, 1, 0, 3)]), [(0, -1), (1, 2)])


if __name__ == "__main__":
    unittest.main()
