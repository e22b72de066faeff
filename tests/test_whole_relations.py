"""Points 3, 4 and 7 to 12: everything read backwards, letters renamed, a ring turned, one more word."""

import random
import unittest

from overstamps.bands import Band
from overstamps.changes import can_change, fewest_change
from overstamps.counting import count_fewest, count_splittings, nth_splitting, splitting_index
from overstamps.orders import always_before, count_orders, may_be_first, may_be_last
from overstamps.stamps import Stamps
from overstamps.tables import shows, table_of
from overstamps.unknown import can_fill, fewest_fill, possible_letters
from tests import model, overs
from tests.things import drawn_stamps, long_stamps, mirrored, most_cells, turned


def drawn_texts(rounds, seed):
    """Bands of all kinds with texts that they can show, and texts that they may show, and a source of draws."""
    chance = random.Random(seed)
    for words in long_stamps() + [drawn_stamps(chance) for _ in range(rounds)]:
        for kind in model.KINDS:
            most = most_cells(kind)
            for size in (most, min(most, chance.randint(len(words[0]), 24))):
                text = overs.printed_over(kind, words, "." * size, chance.choice([0, 10, 30]), chance)[1]
                at = chance.randrange(size)
                yield kind, words, text, chance
                yield kind, words, text[:at] + chance.choice("".join(words)) + text[at + 1:], chance


def numbers(kind, words, text, old):
    """What the document says of a text that is the same for texts that are equal but for names and directions."""
    band = Band.named(kind, Stamps(*words))
    found = [
        text in band, band.fewest(text), count_splittings(band, text), count_fewest(band, text),
        fewest_change(band, old, text), can_change(band, old, text),
    ]
    if kind != "ring":
        pattern = "".join("?" if sign == "." else letter for letter, sign in zip(text, old))
        found = found + [can_fill(band, pattern), fewest_fill(band, pattern)]
    return found


def orders(kind, words, text, parts):
    """The same of the orders of a splitting; the parts are told by their stampings."""
    band = Band.named(kind, Stamps(*words))
    return [
        count_orders(band, text, parts), [parts[index] for index in may_be_first(band, text, parts)],
        [parts[index] for index in may_be_last(band, text, parts)],
        [(parts[one], parts[other]) for one, other in always_before(band, text, parts)],
    ]


def drawn_splitting(kind, words, text, chance):
    """A drawn splitting of a text with at most 24 parts, or None."""
    band = Band.named(kind, Stamps(*words))
    many = count_splittings(band, text)
    if many == 0:
        return None
    parts = nth_splitting(band, text, chance.randrange(many))
    return parts if len(parts) <= 24 else band.splitting(text) if band.fewest(text) <= 24 else None


class Same(unittest.TestCase):
    def check_orders(self, kind, one, other, change_parts):
        """Check that a splitting of one text has the same orders as what it is among the other words."""
        words, text, parts = one
        changed = change_parts(parts)
        found = orders(kind, words, text, parts)
        same = orders(kind, other[0], other[1], changed)
        self.assertEqual(same[0], found[0])
        self.assertEqual(sorted(same[1]), change_parts(found[1]))
        self.assertEqual(sorted(same[2]), change_parts(found[2]))
        pairs = sorted((change_parts([before])[0], change_parts([after])[0]) for before, after in found[3])
        self.assertEqual(sorted(same[3]), pairs)

    def check(self, kind, words, text, others, other_text, chance, change_strip, change_parts):
        old = overs.drawn_strip(words, len(text), chance)
        told = (kind, words, text, old)
        self.assertEqual(numbers(kind, others, other_text, change_strip(old)), numbers(kind, words, text, old), told)
        parts = drawn_splitting(kind, words, text, chance)
        if parts is not None:
            self.check_orders(kind, (words, text, parts), (others, other_text), change_parts)
            band = Band.named(kind, Stamps(*others))
            changed = change_parts(parts)
            index = splitting_index(band, other_text, changed)
            self.assertEqual(nth_splitting(band, other_text, index), changed)

    def test_read_backwards(self):
        for kind, words, text, chance in drawn_texts(20, 1):
            others = [word[::-1] for word in words]
            size, width = len(text), len(words[0])
            self.check(kind, words, text, others, text[::-1], chance, lambda strip: strip[::-1],
                       lambda parts: mirrored(parts, size, width))

    def test_letters_renamed_and_words_moved(self):
        for kind, words, text, chance in drawn_texts(20, 2):
            names = overs.shuffled_names(chance)
            moved = chance.sample(range(len(words)), len(words))
            others = [overs.renamed(words[index], names) for index in moved]
            self.check(kind, words, text, others, overs.renamed(text, names), chance,
                       lambda strip: overs.renamed(strip, names),
                       lambda parts: sorted((part[0], moved.index(part[1])) + part[2:] for part in parts))

    def test_a_ring_turned(self):
        for kind, words, text, chance in drawn_texts(30, 3):
            if kind == "ring":
                far, size = chance.randrange(len(text)), len(text)
                self.check(kind, words, text, words, text[far:] + text[:far], chance,
                           lambda strip: strip[far:] + strip[:far], lambda parts: turned(parts, size, far))

    def test_tables_with_letters_renamed(self):
        for kind, words, text, chance in drawn_texts(10, 4):
            if kind != "ring":
                names = overs.shuffled_names(chance)
                band = Band.named(kind, Stamps(*words))
                other = Band.named(kind, Stamps(*[overs.renamed(word, names) for word in words]))
                table = table_of(band, text)
                self.assertEqual(table_of(other, overs.renamed(text, names)), table)
                self.assertIs(shows(other, overs.renamed(text, names), band.fewest(text) or 1, table), True)

    def test_possible_letters_read_backwards(self):
        for kind, words, text, chance in drawn_texts(20, 5):
            if kind != "ring":
                pattern = "".join("?" if chance.randrange(3) == 0 else letter for letter in text)
                there = possible_letters(Band.named(kind, Stamps(*words)), pattern)
                back = possible_letters(Band.named(kind, Stamps(*[word[::-1] for word in words])), pattern[::-1])
                self.assertEqual(back, there[::-1])


class NotGreater(unittest.TestCase):
    def more(self, words, chance):
        """The words with one more, somewhere among them, or None if there is no room for it."""
        width = len(words[0])
        other = "".join(chance.choice("abz") for _ in range(width))
        if len(words) == 6 or (len(words) + 1) * width > 36 or other in words:
            return None
        at = chance.randint(0, len(words))
        return words[:at] + [other] + words[at:]

    def check_not_greater(self, fewer, more, told):
        """Check that a number with more words is not greater; None is greater than all."""
        self.assertTrue(more is not None if fewer is not None else True, told)
        if fewer is not None:
            self.assertLessEqual(more, fewer, told)

    def test_one_more_word(self):
        asked = 0
        for kind, words, text, chance in drawn_texts(40, 6):
            others = self.more(words, chance)
            if others is None:
                continue
            asked += 1
            old = overs.drawn_strip(words, len(text), chance)
            one, other = numbers(kind, words, text, old), numbers(kind, others, text, old)
            told = (kind, words, others, text, old)
            self.assertTrue(other[0] or not one[0], told)
            self.check_not_greater(one[1], other[1], told)
            self.assertLessEqual(one[2], other[2], told)
            self.check_not_greater(one[4], other[4], told)
            self.assertTrue(other[5] or not one[5], told)
            if kind != "ring":
                self.assertTrue(other[6] or not one[6], told)
                self.check_not_greater(one[7], other[7], told)
        self.assertGreater(asked, 100)

    def test_a_window_needs_no_more_than_a_line_and_a_ring(self):
        for kind, words, text, chance in drawn_texts(20, 7):
            window = Band.named("window", Stamps(*words))
            band = Band.named(kind, Stamps(*words))
            told = (kind, words, text)
            self.assertTrue(text in window or text not in band, told)
            if kind == "line":
                self.check_not_greater(band.fewest(text), window.fewest(text), told)
                self.assertLessEqual(count_splittings(band, text), count_splittings(window, text))
            if len(text) <= 60:
                ring = Band.named("ring", Stamps(*words))
                line = Band.named("line", Stamps(*words))
                # A splitting of a line is one of a ring, too.
                self.check_not_greater(line.fewest(text), ring.fewest(text), told)
                self.assertLessEqual(count_splittings(line, text), count_splittings(ring, text))


if __name__ == "__main__":
    unittest.main()
