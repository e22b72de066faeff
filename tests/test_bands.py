"""Points 2, 3, 5 and 7: the classes of the bands, fits and stamped, and the errors."""

import copy
import unittest

from overstamps.bands import Band, Line, Ring, Window
from overstamps.errors import InvalidName, InvalidNumber, InvalidParts, InvalidStamping, InvalidStrip, InvalidText
from overstamps.errors import NotPossible
from overstamps.stamps import Stamps
from tests import model
from tests.things import BIG, bad_texts, most_cells, odd_things, raised

CLASSES = {"line": Line, "window": Window, "ring": Ring}
METHODS = ("fewest", "splitting", "is_splitting", "stampings_of", "replay", "__contains__")


def bad_strips(kind):
    more = [[], "A", "..A", ".. ", "..\n", "..?", "." * 121, "a" * 121, [".."], ("..",)]
    if kind == "ring":
        more = more + ["." * 61, "a" * 61, "." * 120]
    return odd_things() + more


class Classes(unittest.TestCase):
    def test_names(self):
        self.assertEqual(Band.NAME, "")
        self.assertEqual(Line.NAME, "line")
        self.assertEqual(Window.NAME, "window")
        self.assertEqual(Ring.NAME, "ring")
        stamps = Stamps("ab")
        for kind in (Band, Line, Window, Ring):
            self.assertEqual(kind(stamps).NAME, kind.NAME)
            self.assertIn("NAME", vars(kind))

    def test_base_classes(self):
        for kind in (Line, Window, Ring):
            self.assertTrue(issubclass(kind, Band))
            self.assertEqual([other for other in (Line, Window, Ring) if issubclass(kind, other)], [kind])
            self.assertEqual(kind.__module__, "overstamps.bands")
        self.assertEqual(Band.__module__, "overstamps.bands")

    def test_where_the_methods_stand(self):
        for kind in (Line, Window, Ring):
            for name in ("fits", "stamped"):
                self.assertIn(name, vars(kind))
        for name in METHODS + ("named", "stamps", "__init__"):
            self.assertIn(name, vars(Band))
        self.assertIsInstance(vars(Band)["named"], classmethod)

    def test_named_on_each_class(self):
        stamps = Stamps("ab", "ba")
        for kind in (Band, Line, Window, Ring):
            for name, wanted in CLASSES.items():
                for band in (kind.named(name, stamps), kind.named(name=name, stamps=stamps)):
                    self.assertIs(type(band), wanted)
                    self.assertEqual(band.NAME, name)
                    self.assertIs(band.stamps, stamps)
                    for other in CLASSES.values():
                        self.assertEqual(isinstance(band, other), other is wanted)
                    self.assertIsInstance(band, Band)

    def test_named_on_an_object(self):
        stamps, others = Stamps("ab"), Stamps("cd")
        band = Line(stamps).named("ring", others)
        self.assertIs(type(band), Ring)
        self.assertIs(band.stamps, others)

    def test_names_that_are_none(self):
        stamps = Stamps("ab")
        names = ["", " ", "Line", "LINE", "line ", " line", "lines", "lin", "windows", "rings", "Ring", "band", "Band",
                 "line\n", "\n", "linewindow", "line window", "0", "a" * 4000, "paper", "stamps"]
        for kind in (Band, Line, Window, Ring):
            for name in names:
                raised(self, InvalidName, kind.named, name, stamps)
                raised(self, InvalidName, kind.named, stamps=stamps, name=name)

    def test_stamps_are_the_same_object(self):
        for kind in (Band, Line, Window, Ring):
            stamps = Stamps("ab", "ba")
            for band in (kind(stamps), kind(stamps=stamps)):
                self.assertIs(band.stamps, stamps)
                self.assertIs(band.stamps, band.stamps)
            self.assertEqual(stamps.words, ["ab", "ba"])

    def test_compared_by_identity(self):
        stamps = Stamps("ab")
        for kind in (Band, Line, Window, Ring):
            one, other = kind(stamps), kind(stamps)
            self.assertTrue(one == one)
            self.assertFalse(one == other)
            self.assertTrue(one != other)
            self.assertEqual(len({one: 1, other: 2}), 2)


class Fits(unittest.TestCase):
    def check(self, kind, words, size, word, place):
        band = Band.named(kind, Stamps(*words))
        wanted = model.fits(kind, size, words, word, place)
        found = band.fits(size, word, place)
        self.assertIs(type(found), bool)
        self.assertEqual(found, wanted, (kind, words, size, word, place))

    def test_small_strips(self):
        for kind in model.KINDS:
            for words in (["a"], ["a", "b"], ["ab"], ["abc", "bca"], ["abcdefgh"]):
                for size in range(-2, 11):
                    for word in range(-3, 4):
                        for place in range(-12, 15):
                            self.check(kind, words, size, word, place)

    def test_sizes_at_the_limits(self):
        for kind in model.KINDS:
            for words in (["a"], ["ab", "cd"], ["abcdefgh"]):
                for size in (52, 53, 58, 59, 60, 61, 62, 112, 113, 119, 120, 121, 122, 200):
                    for place in (-9, -8, -7, -2, -1, 0, 1, 51, 52, 53, 58, 59, 60, 61, 112, 113, 118, 119, 120, 121):
                        self.check(kind, words, size, 0, place)
                        self.check(kind, words, size, len(words), place)

    def test_large_numbers(self):
        for kind in model.KINDS:
            for number in (BIG, -BIG, 10 ** 59, 2 ** 64, -2 ** 64):
                self.check(kind, ["ab", "cd"], number, 0, 0)
                self.check(kind, ["ab", "cd"], 5, number, 0)
                self.check(kind, ["ab", "cd"], 5, 0, number)
                self.check(kind, ["ab", "cd"], number, number, number)

    def test_words_at_the_limits(self):
        words = ["a", "b", "c", "d", "e", "f"]
        for kind in model.KINDS:
            for word in range(-7, 9):
                self.check(kind, words, 3, word, 1)

    def test_the_edges_in_words(self):
        stamps = Stamps("abc")
        line, window, ring = Line(stamps), Window(stamps), Ring(stamps)
        self.assertTrue(line.fits(3, 0, 0))
        self.assertFalse(line.fits(3, 0, 1))
        self.assertFalse(line.fits(3, 0, -1))
        self.assertFalse(line.fits(2, 0, 0))
        self.assertTrue(window.fits(1, 0, -2))
        self.assertFalse(window.fits(1, 0, -3))
        self.assertTrue(window.fits(1, 0, 0))
        self.assertFalse(window.fits(1, 0, 1))
        self.assertTrue(ring.fits(3, 0, 2))
        self.assertFalse(ring.fits(3, 0, 3))
        self.assertFalse(ring.fits(3, 0, -1))
        self.assertFalse(ring.fits(2, 0, 0))
        self.assertTrue(ring.fits(60, 0, 59))
        self.assertFalse(ring.fits(61, 0, 0))
        self.assertTrue(line.fits(120, 0, 117))
        self.assertFalse(line.fits(121, 0, 0))

    def test_by_name(self):
        stamps = Stamps("abc", "bcd")
        self.assertTrue(Line(stamps).fits(size=4, word=1, place=1))
        self.assertFalse(Line(stamps).fits(place=4, word=1, size=4))
        self.assertTrue(Window(stamps).fits(word=1, place=-2, size=4))
        self.assertTrue(Ring(stamps).fits(place=3, size=4, word=0))


class Stamped(unittest.TestCase):
    def check(self, kind, words, strip, word, place):
        band = Band.named(kind, Stamps(*words))
        if model.fits(kind, len(strip), words, word, place):
            wanted = model.pressed(kind, strip, words, word, place)
            self.assertEqual(band.stamped(strip, word, place), wanted, (kind, words, strip, word, place))
            self.assertEqual(band.stamped(place=place, strip=strip, word=word), wanted)
        else:
            raised(self, InvalidStamping, band.stamped, strip, word, place)
            raised(self, InvalidStamping, band.stamped, word=word, place=place, strip=strip)
        self.assertEqual(band.stamps.words, words)

    def test_every_place_of_short_strips(self):
        for kind in model.KINDS:
            for words in (["a"], ["a", "b"], ["ab", "cd"], ["abc"], ["abcdefgh", "hgfedcba"]):
                for strip in (".", "z", "z.", "...", "xyz", "v.x.z", "tuvwxyz", "stuvwxyz", "r.tuvwxyz", "." * 10):
                    for word in range(-2, 4):
                        for place in range(-10, 13):
                            self.check(kind, words, strip, word, place)

    def test_long_strips(self):
        for kind in model.KINDS:
            size = most_cells(kind)
            for strip in ("." * size, "z" * size, "xy" * (size // 2), "." * (size - 1)):
                for words in (["ab", "cd"], ["abcdefgh"]):
                    for place in list(range(-9, 3)) + list(range(size - 9, size + 3)):
                        self.check(kind, words, strip, 0, place)

    def test_examples(self):
        stamps = Stamps("abc", "xyz")
        self.assertEqual(Line(stamps).stamped("....", 1, 1), ".xyz")
        self.assertEqual(Window(stamps).stamped("....", 0, -2), "c...")
        self.assertEqual(Window(stamps).stamped("....", 0, 3), "...a")
        self.assertEqual(Window(stamps).stamped(".", 0, -1), "b")
        self.assertEqual(Window(stamps).stamped("..", 1, 0), "xy")
        self.assertEqual(Ring(stamps).stamped("....", 0, 3), "bc.a")
        self.assertEqual(Ring(stamps).stamped("...", 0, 1), "cab")

    def test_large_numbers(self):
        for kind in model.KINDS:
            for number in (BIG, -BIG, 10 ** 59, 2 ** 64):
                self.check(kind, ["ab", "cd"], "....", number, 0)
                self.check(kind, ["ab", "cd"], "....", 0, number)

    def test_strips_that_are_none(self):
        for kind in model.KINDS:
            band = Band.named(kind, Stamps("ab", "ba"))
            for strip in bad_strips(kind):
                raised(self, InvalidStrip, band.stamped, strip, 0, 0)
                raised(self, InvalidStrip, band.stamped, place=0, word=0, strip=strip)

    def test_the_strip_is_looked_at_first(self):
        for kind in model.KINDS:
            band = Band.named(kind, Stamps("ab", "ba"))
            for strip in bad_strips(kind):
                for word, place in ((2, 0), (-1, 0), (0, -5), (0, BIG)):
                    raised(self, InvalidStrip, band.stamped, strip, word, place)


class Errors(unittest.TestCase):
    def bands(self):
        for kind in model.KINDS:
            yield kind, Band.named(kind, Stamps("ab", "ba"))

    def test_texts_that_are_none(self):
        for kind, band in self.bands():
            for text in bad_texts(kind):
                raised(self, InvalidText, band.fewest, text)
                raised(self, InvalidText, band.fewest, text=text)
                raised(self, InvalidText, band.splitting, text)
                raised(self, InvalidText, band.splitting, text=text)
                raised(self, InvalidText, band.is_splitting, text, [(0, 0, 0, 2)])
                raised(self, InvalidText, band.is_splitting, thing=[(0, 0, 0, 2)], text=text)
                raised(self, InvalidText, band.stampings_of, text, [(0, 0, 0, 2)])
                raised(self, InvalidText, band.stampings_of, parts=[(0, 0, 0, 2)], text=text)

    def test_the_text_is_looked_at_first(self):
        for kind, band in self.bands():
            for text in bad_texts(kind):
                for thing in (None, [], text, [(0, 0)], 7):
                    raised(self, InvalidText, band.stampings_of, text, thing)
                    raised(self, InvalidText, band.is_splitting, text, thing)

    def test_a_text_too_long_for_a_ring_alone(self):
        stamps = Stamps("ab", "ba")
        for text in ("ab" * 31, "a" + "ab" * 30, "ab" * 60):
            raised(self, InvalidText, Ring(stamps).fewest, text)
            raised(self, InvalidText, Ring(stamps).splitting, text)
            raised(self, InvalidText, Ring(stamps).is_splitting, text, [])
            raised(self, InvalidText, Ring(stamps).stampings_of, text, [])
            self.assertIs(text in Ring(stamps), False)
        self.assertEqual(Line(stamps).fewest("ab" * 60), 60)
        self.assertEqual(Window(stamps).fewest("ab" * 31), 31)
        self.assertEqual(Ring(stamps).fewest("ab" * 30), 30)

    def test_no_splitting(self):
        for kind, band in self.bands():
            for text in ("z", "zz", "abz", "zab", "abzab", "c" * 60):
                raised(self, NotPossible, band.splitting, text)
                raised(self, NotPossible, band.splitting, text=text)
                self.assertIsNone(band.fewest(text))
                self.assertIs(text in band, False)
                raised(self, InvalidParts, band.stampings_of, text, [])
                raised(self, InvalidParts, band.stampings_of, text, [(0, 0, 0, 2)])

    def test_parts_that_are_none(self):
        for kind, band in self.bands():
            for thing in odd_things() + [[], [(0, 0, 0, 1)], ((0, 0, 0, 2),), [[0, 0, 0, 2]], [(2, 0, 0, 2)]]:
                raised(self, InvalidParts, band.stampings_of, "ab", thing)
                raised(self, InvalidParts, band.stampings_of, parts=thing, text="ab")

    def test_the_size_is_looked_at_first(self):
        for kind, band in self.bands():
            for size in (0, -1, most_cells(kind) + 1, BIG):
                for thing in (None, [(9, 9)], [(0, -7)], ((0, 0),), [(0, 0)] * 201):
                    raised(self, InvalidNumber, lambda: next(iter(band.replay(size, thing))))

    def test_texts_that_the_band_does_not_contain(self):
        for kind, band in self.bands():
            for thing in bad_texts(kind):
                self.assertIs(thing in band, False)
                self.assertIs(thing not in band, True)

    def test_arguments_do_not_change(self):
        parts = [(0, 0, 0, 2), (2, 1, 0, 2)]
        wrong = [[0, 0, 0, 2], (2, 1, 0, 2), {"a": [1, 2]}, None]
        before = copy.deepcopy(wrong)
        for kind, band in self.bands():
            self.assertTrue(band.is_splitting("abba", parts))
            band.stampings_of("abba", parts)
            self.assertEqual(parts, [(0, 0, 0, 2), (2, 1, 0, 2)])
            self.assertFalse(band.is_splitting("abba", wrong))
            raised(self, InvalidParts, band.stampings_of, "abba", wrong)
            self.assertFalse(wrong in band)
            raised(self, InvalidText, band.fewest, wrong)
            self.assertEqual(wrong, before)
            self.assertEqual(band.stamps.words, ["ab", "ba"])


if __name__ == "__main__":
    unittest.main()
