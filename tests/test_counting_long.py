"""Points 2, 3, 4 and 8: the splittings of strings up to the limits that the document names."""

import copy
import random
import unittest
from itertools import islice

from overstamps.bands import Band
from overstamps.counting import count_fewest, count_splittings, nth_splitting, splitting_index, splittings
from overstamps.errors import InvalidNumber, InvalidParts
from overstamps.stamps import Stamps
from tests import model, ways
from tests.things import BIG, drawn_stamps, filled_by_history, filled_sparsely, long_stamps, most_cells, raised, turned


def long_texts(seed, many):
    """Each kind of band with words up to the limits, and a text that stampings leave, or one with a cell changed."""
    chance = random.Random(seed)
    lists = long_stamps() + [drawn_stamps(chance) for _ in range(many)]
    for kind in model.KINDS:
        for words in lists:
            most = most_cells(kind)
            size = chance.choice([most, most, most - 1, chance.randint(8, most)])
            fill = chance.choice([filled_by_history, filled_sparsely])
            text = fill(kind, size, words, chance.randint(0, 1000))[1]
            yield kind, words, text
            at = chance.randrange(size)
            yield kind, words, text[:at] + chance.choice("".join(words) + "z") + text[at + 1:]
    for words in ONE_LETTER:
        for kind in model.KINDS:
            yield kind, words, "a" * most_cells(kind)


ONE_LETTER = [
    ["a"], ["aa"], ["aaaaaaaa"], ["aaaaaaaa", "aaaaaaab", "aaaabaaa", "abaaaaaa"], ["aaaa", "aaab", "aaba"],
    ["aaaaaa", "aaaaab", "aaaaba", "aaabaa", "aabaaa", "abaaaa"], ["b", "a"], ["aab", "baa", "bbb"],
]


class Numbers(unittest.TestCase):
    def test_against_a_second_way(self):
        for kind, words, text in long_texts(1, 12):
            told = (kind, words, text)
            band = Band.named(kind, Stamps(*words))
            numbers = ways.counted(kind, words, text)
            self.assertEqual(count_splittings(band, text), sum(numbers.values()), told)
            fewest = min(numbers, default=None)
            self.assertEqual(count_fewest(band, text), numbers.get(fewest, 0), told)
            # Nothing has fewer parts than fewest says, and something has as many.
            self.assertEqual(band.fewest(text), fewest, told)
            self.assertIs(text in band, len(numbers) > 0, told)

    def test_no_splitting(self):
        for kind, words, text in long_texts(2, 4):
            band = Band.named(kind, Stamps(*words))
            for other in ("x" * len(text), text[:-1] + "x", "x" + text[1:]):
                self.assertEqual(count_splittings(band, other), 0)
                self.assertEqual(count_fewest(band, other), 0)
                self.assertEqual(list(splittings(band, other)), [])
                for index in (0, 1, -1, BIG):
                    raised(self, InvalidNumber, nth_splitting, band, other, index)

    def test_numbers_in_words(self):
        for kind in model.KINDS:
            most = most_cells(kind)
            self.assertEqual(count_splittings(Band.named(kind, Stamps("a", "b")), "ab" * (most // 2)), 1)
            self.assertEqual(count_fewest(Band.named(kind, Stamps("a", "b")), "ab" * (most // 2)), 1)
            self.assertEqual(count_fewest(Band.named(kind, Stamps("abcdef")), "abcdef" * (most // 6)), 1)
        self.assertEqual(count_fewest(Band.named("line", Stamps("aaaaaaaa")), "a" * 120), 1)
        self.assertEqual(count_fewest(Band.named("ring", Stamps("aaaaaa")), "a" * 60), 6)

    def test_a_ring_that_is_turned(self):
        chance = random.Random(3)
        for kind, words, text in long_texts(4, 4):
            if kind == "ring":
                band = Band.named(kind, Stamps(*words))
                far = chance.randrange(len(text))
                other = text[far:] + text[:far]
                self.assertEqual(count_splittings(band, other), count_splittings(band, text))
                self.assertEqual(count_fewest(band, other), count_fewest(band, text))

    def test_read_backward(self):
        for kind, words, text in long_texts(5, 4):
            band, mirror = Band.named(kind, Stamps(*words)), Band.named(kind, Stamps(*[word[::-1] for word in words]))
            self.assertEqual(count_splittings(band, text), count_splittings(mirror, text[::-1]))
            self.assertEqual(count_fewest(band, text), count_fewest(mirror, text[::-1]))


class Indexes(unittest.TestCase):
    def test_there_and_back(self):
        chance = random.Random(6)
        for kind, words, text in long_texts(7, 6):
            told = (kind, words, text)
            band = Band.named(kind, Stamps(*words))
            many = count_splittings(band, text)
            for index in (-1, many, many + 1, -many - 1, 10 ** 59 if many <= 10 ** 59 else -BIG, -BIG):
                raised(self, InvalidNumber, nth_splitting, band, text, index)
            if many == 0:
                continue
            indexes = sorted({0, many - 1, chance.randrange(many), chance.randrange(many), chance.randrange(many)})
            found = [nth_splitting(band, text, index) for index in indexes]
            self.assertEqual(sorted(found), found, told)
            for index, parts in zip(indexes, found):
                self.assertTrue(model.is_splitting(kind, words, text, parts), told)
                self.assertEqual(splitting_index(band, text, parts), index, told)
            self.assertEqual(len({str(parts) for parts in found}), len(indexes))

    def test_neighbours_by_a_second_way(self):
        chance = random.Random(8)
        for kind, words, text in long_texts(9, 3):
            band = Band.named(kind, Stamps(*words))
            many = count_splittings(band, text)
            if many:
                first = chance.randrange(many)
                last = nth_splitting(band, text, many - 1)
                self.assertEqual(ways.index_of_splitting(kind, words, text, last), many - 1)
                for index in (first, first + 1):
                    if index < many:
                        parts = nth_splitting(band, text, index)
                        self.assertEqual(ways.index_of_splitting(kind, words, text, parts), index, (kind, words, text))

    def test_the_splitting_of_the_band_is_counted(self):
        for kind, words, text in long_texts(10, 4):
            band = Band.named(kind, Stamps(*words))
            if text in band:
                parts = band.splitting(text)
                index = splitting_index(band, text, parts)
                self.assertEqual(nth_splitting(band, text, index), parts)
                self.assertTrue(0 <= index < count_splittings(band, text))
                raised(self, InvalidParts, splitting_index, band, text, parts[::-1] + parts)
                raised(self, InvalidParts, splitting_index, band, text, tuple(parts))
                raised(self, InvalidParts, splitting_index, band, text, parts[:-1])

    def test_a_ring_begins_elsewhere(self):
        for kind, words, text in long_texts(11, 3):
            if kind == "ring":
                band = Band.named(kind, Stamps(*words))
                many = count_splittings(band, text)
                for far in (1, len(text) // 2, len(text) - 1) if many else ():
                    other = text[far:] + text[:far]
                    parts = turned(nth_splitting(band, text, many // 3), len(text), far)
                    self.assertEqual(nth_splitting(band, other, splitting_index(band, other, parts)), parts)


class Yielded(unittest.TestCase):
    def test_the_first_ones_of_many(self):
        for kind, words, text in long_texts(12, 4):
            band = Band.named(kind, Stamps(*words))
            many = count_splittings(band, text)
            first = list(islice(splittings(band, text), 5))
            self.assertEqual(first, [nth_splitting(band, text, index) for index in range(min(5, many))])

    def test_twice_and_side_by_side(self):
        for kind, words, text in long_texts(13, 1):
            band = Band.named(kind, Stamps(*words))
            wanted = list(islice(splittings(band, text), 7))
            self.assertEqual(list(islice(splittings(band, text), 7)), wanted)
            one, other = splittings(band, text), splittings(band=band, text=text)
            pairs = list(islice(zip(one, other), 7))
            self.assertEqual(pairs, [(parts, parts) for parts in wanted])
            self.assertTrue(all(mine is not yours for mine, yours in pairs))

    def test_stopped_early(self):
        band = Band.named("window", Stamps("aaaa", "aaab"))
        run = splittings(band, "a" * 120)
        first = next(run)
        run.close()
        self.assertEqual(next(splittings(band, "a" * 120)), first)

    def test_lists_that_the_caller_changes(self):
        for kind, text in (("line", "aabaab"), ("window", "abaaba"), ("ring", "baabaa")):
            band = Band.named(kind, Stamps("aab", "aba"))
            wanted = copy.deepcopy(list(splittings(band, text)))
            self.assertGreater(len(wanted), 2)
            found = []
            for parts in splittings(band, text):
                found.append(list(parts))
                parts.clear()
                parts.append("changed")
            self.assertEqual(found, wanted)
            every = list(splittings(band, text))
            self.assertEqual(len({id(parts) for parts in every}), len(every))

    def test_calls_in_between(self):
        band, other = Band.named("ring", Stamps("aab", "aba")), Band.named("line", Stamps("aa", "ab"))
        wanted = list(splittings(band, "baabaa"))
        found = []
        for parts in splittings(band, "baabaa"):
            found.append(parts)
            self.assertEqual(splitting_index(band, "baabaa", parts), len(found) - 1)
            list(splittings(other, "aabaab"))
            list(splittings(band, "aabaab"))
        self.assertEqual(found, wanted)


class NewLists(unittest.TestCase):
    def test_results_are_new(self):
        for kind, words, text in long_texts(14, 1):
            band = Band.named(kind, Stamps(*words))
            many = count_splittings(band, text)
            if many:
                parts = nth_splitting(band, text, many - 1)
                again = nth_splitting(Band.named(kind, Stamps(*words)), text, many - 1)
                self.assertEqual(parts, again)
                again.clear()
                self.assertEqual(nth_splitting(band, text, many - 1), parts)
                before = copy.deepcopy(parts)
                splitting_index(band, text, parts)
                self.assertEqual(parts, before)


if __name__ == "__main__":
    unittest.main()
