"""Points 2, 3, 4 and 12: strips up to the limits that the document names."""

import random
import unittest

from overstamps.bands import Band
from overstamps.changes import can_change, change, fewest_change
from overstamps.errors import NotPossible
from overstamps.stamps import Stamps
from tests import model, overs
from tests.things import drawn_stamps, long_stamps, most_cells, raised


def sizes(kind, chance):
    most = most_cells(kind)
    return [most, most - 1, chance.randint(9, most)]


def drawn_words(rounds, seed):
    """The words at the limits, and as many drawn ones, each with a source of further draws."""
    chance = random.Random(seed)
    for words in long_stamps() + [drawn_stamps(chance) for _ in range(rounds)]:
        yield words, chance


def drawn_changes(rounds, seed):
    """Bands with an old strip, a text printed over it or anew, and how many stampings were pressed for it."""
    for words, chance in drawn_words(rounds, seed):
        for kind in model.KINDS:
            for size in sizes(kind, chance):
                old = overs.drawn_strip(words, size, chance)
                history, new = overs.printed_over(kind, words, old, chance.choice([0, 2, 10, 40]), chance)
                yield kind, words, old, new, len(history)
                history, new = overs.printed_over(kind, words, "." * size, chance.choice([0, 10, 40]), chance)
                yield kind, words, old, new, len(history)


class Long(unittest.TestCase):
    def check_change(self, kind, words, old, new):
        """Check that the change does it, and return its number."""
        told = (kind, words, old, new)
        band = Band.named(kind, Stamps(*words))
        many = fewest_change(band, old, new)
        self.assertIs(type(many), int, told)
        self.assertIs(can_change(band, old, new), True, told)
        stampings = change(band, old, new)
        self.assertIs(type(stampings), list)
        for stamping in stampings:
            self.assertIs(type(stamping), tuple)
            self.assertEqual([type(number) for number in stamping], [int, int])
        self.assertEqual(len(stampings), many, told)
        self.assertEqual(overs.pressed_on(kind, old, words, stampings), new, told)
        self.assertIs(many == 0, old == new, told)
        return many

    def test_what_was_printed_over(self):
        for kind, words, old, new, pressed in drawn_changes(60, 1):
            self.assertLessEqual(self.check_change(kind, words, old, new), pressed, (kind, words, old, new))

    def test_the_number_is_the_least_one(self):
        for kind, words, old, new, _ in drawn_changes(8, 2):
            if kind != "ring" or len(new) <= 40:
                told = (kind, words, old, new)
                band = Band.named(kind, Stamps(*words))
                self.assertEqual(fewest_change(band, old, new), overs.fewest(kind, words, old, new), told)

    def test_the_least_number_on_long_rings(self):
        chance = random.Random(3)
        for words in long_stamps()[::2]:
            old = overs.drawn_strip(words, 60, chance)
            new = overs.printed_over("ring", words, old, chance.choice([4, 20]), chance)[1]
            band = Band.named("ring", Stamps(*words))
            self.assertEqual(fewest_change(band, old, new), overs.fewest("ring", words, old, new), (words, old, new))

    def test_texts_that_are_nearly_printed(self):
        chance = random.Random(4)
        found = {True: 0, False: 0}
        for kind, words, old, new, _ in drawn_changes(8, 5):
            if kind == "ring" and len(new) > 40:
                continue
            at = chance.randrange(len(new))
            new = new[:at] + chance.choice("z" + "".join(words)) + new[at + 1:]
            many = overs.fewest(kind, words, old, new)
            found[many is not None] += 1
            band = Band.named(kind, Stamps(*words))
            if many is None:
                told = (kind, words, old, new)
                self.assertIsNone(fewest_change(band, old, new), told)
                self.assertIs(can_change(band, old, new), False, told)
                raised(self, NotPossible, change, band, old, new)
            else:
                self.assertEqual(self.check_change(kind, words, old, new), many)
        self.assertGreater(min(found.values()), 30)

    def test_equal_strips(self):
        for words, chance in drawn_words(20, 6):
            for kind in model.KINDS:
                for size in [1] + sizes(kind, chance):
                    text = "".join(chance.choice("zq" + "".join(words)) for _ in range(size))
                    band = Band.named(kind, Stamps(*words))
                    self.assertEqual(fewest_change(band, text, text), 0)
                    self.assertEqual(change(band, text, text), [])
                    at = chance.randrange(size)
                    hole = text[:at] + "." + text[at + 1:]
                    self.assertNotEqual(fewest_change(band, hole, text), 0)

    def test_equal_arguments_give_equal_results(self):
        for kind, words, old, new, _ in drawn_changes(4, 7):
            one, other = Band.named(kind, Stamps(*words)), Band.named(kind, Stamps.of(words))
            stampings = change(one, old, new)
            again = change(one, old, new)
            self.assertEqual(stampings, again)
            self.assertIsNot(stampings, again)
            again.append((0, 0))
            self.assertEqual(change(other, old, new), stampings)
            self.assertEqual(fewest_change(other, old, new), len(stampings))

    def test_known_numbers(self):
        stamps = Stamps("aaaaaaaa")
        line, window, ring = (Band.named(kind, stamps) for kind in model.KINDS)
        self.assertEqual(fewest_change(line, "a" * 119 + ".", "a" * 120), 1)
        self.assertEqual(fewest_change(line, "a." * 60, "a" * 120), 15)
        self.assertEqual(fewest_change(line, "." + "a" * 118 + ".", "a" * 120), 2)
        self.assertEqual(fewest_change(window, "a." * 60, "a" * 120), 15)
        self.assertEqual(fewest_change(ring, "." + "a" * 58 + ".", "a" * 60), 1)
        self.assertEqual(fewest_change(ring, "a." * 30, "a" * 60), 8)
        self.assertEqual(fewest_change(ring, ("z" * 7 + "q") * 7, ("z" * 7 + "q") * 7), 0)
        self.assertIsNone(fewest_change(ring, "z" * 7 + "." * 7 + "z", "z" * 7 + "a" * 7 + "z"))
        self.assertEqual(fewest_change(ring, "z" * 7 + "." * 8 + "z", "z" * 7 + "a" * 8 + "z"), 1)
        self.assertIsNone(fewest_change(window, "z" + "." * 7 + "z", "z" + "a" * 7 + "z"))
        self.assertEqual(fewest_change(window, "." * 7 + "z" + "." * 7, "a" * 7 + "z" + "a" * 7), 2)


class Relations(unittest.TestCase):
    def numbers(self, kind, words, old, new):
        return fewest_change(Band.named(kind, Stamps(*words)), old, new)

    def test_from_an_empty_strip(self):
        for words, chance in drawn_words(30, 8):
            for kind in model.KINDS:
                for size in sizes(kind, chance):
                    text = overs.printed_over(kind, words, "." * size, chance.choice([0, 10]), chance)[1]
                    at = chance.randrange(size)
                    for new in (text, text[:at] + chance.choice("".join(words)) + text[at + 1:]):
                        fewest = Band.named(kind, Stamps(*words)).fewest(new)
                        self.assertEqual(self.numbers(kind, words, "." * size, new), fewest, (kind, words, new))

    def test_never_more_than_over_an_empty_strip(self):
        for kind, words, old, new, _ in drawn_changes(20, 9):
            fewest = Band.named(kind, Stamps(*words)).fewest(new)
            if fewest is not None:
                self.assertLessEqual(self.numbers(kind, words, old, new), fewest, (kind, words, old, new))

    def test_by_a_third_text(self):
        chance = random.Random(10)
        for kind, words, old, new, _ in drawn_changes(20, 11):
            third = overs.printed_over(kind, words, old, chance.choice([1, 5]), chance)[1]
            last = overs.printed_over(kind, words, third, chance.choice([1, 5]), chance)[1]
            first, second = self.numbers(kind, words, old, third), self.numbers(kind, words, third, last)
            self.assertLessEqual(self.numbers(kind, words, old, last), first + second, (kind, words, old, third, last))
            # What can be printed anew is a third text for every pair.
            anew = self.numbers(kind, words, third, new)
            if anew is not None:
                self.assertLessEqual(self.numbers(kind, words, old, new), first + anew)

    def test_turned_rings(self):
        chance = random.Random(12)
        for kind, words, old, new, _ in drawn_changes(20, 13):
            if kind == "ring":
                many = self.numbers(kind, words, old, new)
                for far in (1, chance.randrange(len(new)), len(new) - 1):
                    turned = self.numbers(kind, words, old[far:] + old[:far], new[far:] + new[:far])
                    self.assertEqual(turned, many, (words, old, new, far))

    def test_reversed(self):
        for kind, words, old, new, _ in drawn_changes(20, 14):
            back = [word[::-1] for word in words]
            self.assertEqual(self.numbers(kind, back, old[::-1], new[::-1]), self.numbers(kind, words, old, new))

    def test_renamed_letters_and_moved_words(self):
        chance = random.Random(15)
        for kind, words, old, new, _ in drawn_changes(20, 16):
            names = overs.shuffled_names(chance)
            others = [overs.renamed(word, names) for word in chance.sample(words, len(words))]
            many = self.numbers(kind, others, overs.renamed(old, names), overs.renamed(new, names))
            self.assertEqual(many, self.numbers(kind, words, old, new))

    def test_more_words_and_fewer_new_cells_never_need_more(self):
        chance = random.Random(17)
        for kind, words, old, new, _ in drawn_changes(20, 18):
            many = self.numbers(kind, words, old, new)
            at = chance.randrange(len(new))
            self.assertLessEqual(self.numbers(kind, words, old[:at] + new[at] + old[at + 1:], new), many)
            if len(words) > 1:
                fewer = self.numbers(kind, words[:-1], old, new)
                self.assertTrue(fewer is None or fewer >= many)


if __name__ == "__main__":
    unittest.main()
