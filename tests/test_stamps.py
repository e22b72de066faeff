"""Points 2, 3 and 6: stamps."""

import unittest

from overstamps.errors import InvalidStamping, InvalidStamps, InvalidStrip
from overstamps.stamps import Stamps
from tests import model
from tests.things import BIG, odd_things, raised

GOOD = [
    ["a"], ["z"], ["a", "z"], ["abcdefgh"], ["b", "a"], ["a", "b", "c", "d", "e", "f"], ["aaaaaaaa", "aaaaaaab"],
    ["abcdef", "bcdefa", "cdefab", "defabc", "efabcd", "fabcde"],
    ["abcdefg", "bcdefga", "cdefgab", "defgabc", "efgabcd"],
    ["abcdefgh", "bcdefgha", "cdefghab", "defghabc"], ["ab", "ba", "aa", "bb", "ac", "ca"],
]
BAD = [
    [], [""], ["", "a"], ["a", ""], ["abcdefghi"], ["a", "ab"], ["ab", "a"], ["ab", "cd", "efg"], ["a", "a"],
    ["ab", "cd", "ab"], ["a", "b", "c", "d", "e", "f", "g"], ["a", "b", "c", "d", "e", "f", "f"], ["a"] * 7,
    ["ab", "ba", "aa", "bb", "ac", "ca", "cc"],
    ["abcdefg", "bcdefga", "cdefgab", "defgabc", "efgabcd", "fgabcde"],
    ["abcdefgh", "bcdefgha", "cdefghab", "defghabc", "efghabcd"],
    ["A"], ["aB"], ["1"], ["a1"], ["a b"], [" a"], ["a "], ["."], ["a."], [".a"], ["a\n"], ["\na"], ["\n"], ["a-"],
    ["a", "B"], ["`"], ["{"], ["@"], ["ab", "c\n"], ["ab", ".."], ["?"],
    [None], [1], [True], [["a"]], [("a",)], [{"a": 1}], ["a", None], ["a", 1], ["a", False], ["a", ["b"]],
    ["a", ("b",)], [Stamps("a")], ["a", Stamps("b")], ["a", {}], [[]], [()],
]


class What(unittest.TestCase):
    def test_good_words(self):
        for words in GOOD:
            for stamps in (Stamps(*words), Stamps.of(words), Stamps.of(words=words)):
                self.assertIs(type(stamps), Stamps)
                self.assertEqual(stamps.words, words)
                self.assertIs(type(stamps.words), list)
                self.assertEqual(stamps.width, len(words[0]))
                self.assertEqual(len(stamps), len(words))

    def test_bad_words(self):
        for words in BAD:
            raised(self, InvalidStamps, Stamps, *words)
            raised(self, InvalidStamps, Stamps.of, words)
            raised(self, InvalidStamps, Stamps.of, words=words)

    def test_each_number_and_width(self):
        letters = "abcdefghij"
        for width in range(1, 11):
            for many in range(0, 9):
                words = [letters[at] * (width - 1) + letters[at] for at in range(many)]
                if 1 <= many <= 6 and width <= 8 and many * width <= 36:
                    self.assertEqual(Stamps(*words).words, words)
                    self.assertEqual(Stamps.of(words).words, words)
                else:
                    raised(self, InvalidStamps, Stamps, *words)
                    raised(self, InvalidStamps, Stamps.of, words)

    def test_each_sign(self):
        for code in [10] + list(range(32, 127)):
            sign = chr(code)
            if sign in "abcdefghijklmnopqrstuvwxyz":
                self.assertEqual(Stamps(sign, "a" if sign != "a" else "b").words[0], sign)
                self.assertEqual(Stamps("q" + sign).words, ["q" + sign])
            else:
                raised(self, InvalidStamps, Stamps, sign)
                raised(self, InvalidStamps, Stamps, "q" + sign)
                raised(self, InvalidStamps, Stamps, "qq", "q" + sign)

    def test_of_takes_a_list_alone(self):
        for thing in odd_things() + [("ab", "ba"), "ab", "abc", {"a": 1, "b": 2}, Stamps("a"), []]:
            raised(self, InvalidStamps, Stamps.of, thing)

    def test_words_of_other_kinds(self):
        for thing in odd_things():
            raised(self, InvalidStamps, Stamps, thing)
            raised(self, InvalidStamps, Stamps, "ab", thing)

    def test_returned_words_are_new(self):
        given = ["ab", "cd"]
        for stamps in (Stamps.of(given), Stamps("ab", "cd")):
            first = stamps.words
            second = stamps.words
            self.assertIsNot(first, second)
            first.append("ef")
            second[0] = "zz"
            self.assertEqual(stamps.words, ["ab", "cd"])
            self.assertEqual(len(stamps), 2)
        given.append("xyz")
        given[0] = "q"
        self.assertEqual(Stamps.of(["ab", "cd"]).words, ["ab", "cd"])

    def test_the_list_given_is_not_kept_and_not_changed(self):
        given = ["ab", "cd"]
        stamps = Stamps.of(given)
        self.assertEqual(given, ["ab", "cd"])
        self.assertIsNot(stamps.words, given)
        given.append("ef")
        given[0] = "zz"
        self.assertEqual(stamps.words, ["ab", "cd"])
        self.assertEqual(stamps("....", 0, 0), "ab..")

    def test_most(self):
        self.assertEqual(Stamps.MOST, 6)
        self.assertIs(type(Stamps.MOST), int)
        self.assertEqual(Stamps("a").MOST, 6)

    def test_compared_by_identity(self):
        one, other = Stamps("ab", "cd"), Stamps("ab", "cd")
        self.assertTrue(one == one)
        self.assertFalse(one == other)
        self.assertTrue(one != other)
        self.assertEqual(len({one: 1, other: 2}), 2)

    def test_the_interface_is_defined_in_the_class(self):
        self.assertEqual(Stamps.__module__, "overstamps.stamps")
        for name in ("__init__", "of", "words", "width", "__len__", "__add__", "__call__", "MOST"):
            self.assertIn(name, vars(Stamps))
        self.assertIsInstance(vars(Stamps)["of"], classmethod)


class Sums(unittest.TestCase):
    def check(self, one, other):
        words = one + [word for word in other if word not in one]
        left, right = Stamps(*one), Stamps(*other)
        if len(one[0]) == len(other[0]) and len(words) <= 6 and len(words) * len(one[0]) <= 36:
            both = left + right
            self.assertIs(type(both), Stamps)
            self.assertEqual(both.words, words)
            self.assertEqual(both.width, len(one[0]))
            self.assertEqual(len(both), len(words))
            self.assertIsNot(both, left)
            self.assertIsNot(both, right)
        else:
            raised(self, InvalidStamps, lambda: left + right)
        self.assertEqual(left.words, one)
        self.assertEqual(right.words, other)

    def test_all_pairs(self):
        for one in GOOD:
            for other in GOOD:
                self.check(one, other)

    def test_words_in_common_keep_the_order(self):
        self.assertEqual((Stamps("ab", "cd") + Stamps("ef", "cd", "ab", "gh")).words, ["ab", "cd", "ef", "gh"])
        self.assertEqual((Stamps("ef", "cd", "ab", "gh") + Stamps("ab", "cd")).words, ["ef", "cd", "ab", "gh"])

    def test_limits(self):
        self.check(["a", "b", "c"], ["d", "e", "f"])
        self.check(["a", "b", "c"], ["d", "e", "f", "g"])
        self.check(["a", "b", "c"], ["c", "d", "e", "f"])
        self.check(["abcdefgh", "aaaaaaaa"], ["bbbbbbbb", "cccccccc"])
        self.check(["abcdefgh", "aaaaaaaa"], ["bbbbbbbb", "cccccccc", "dddddddd"])
        self.check(["abcdefgh", "aaaaaaaa"], ["bbbbbbbb", "aaaaaaaa", "abcdefgh", "cccccccc"])
        self.check(["ab"], ["abc"])

    def test_with_themselves(self):
        for words in GOOD:
            stamps = Stamps(*words)
            twice = stamps + stamps
            self.assertIsNot(twice, stamps)
            self.assertEqual(twice.words, words)
            self.assertEqual(stamps.words, words)

    def test_three(self):
        one, two, three = Stamps("ab", "cd"), Stamps("cd", "ef"), Stamps("gh", "ab")
        self.assertEqual((one + two + three).words, ["ab", "cd", "ef", "gh"])
        self.assertEqual((one + (two + three)).words, ["ab", "cd", "ef", "gh"])
        self.assertEqual((three + two + one).words, ["gh", "ab", "cd", "ef"])
        self.assertEqual([one.words, two.words, three.words], [["ab", "cd"], ["cd", "ef"], ["gh", "ab"]])
        raised(self, InvalidStamps, lambda: one + two + Stamps("abc"))

    def test_sums_press_the_words_of_both(self):
        both = Stamps("ab", "cd") + Stamps("ab", "ef")
        self.assertEqual(both(".....", 2, 3), "...ef")
        raised(self, InvalidStamping, both, ".....", 3, 0)


class Calls(unittest.TestCase):
    def check(self, words, strip, word, place):
        stamps = Stamps(*words)
        if model.fits("line", len(strip), words, word, place):
            wanted = model.pressed("line", strip, words, word, place)
            self.assertEqual(stamps(strip, word, place), wanted)
            self.assertEqual(stamps(strip=strip, word=word, place=place), wanted)
            self.assertEqual(stamps(strip, place=place, word=word), wanted)
        else:
            raised(self, InvalidStamping, stamps, strip, word, place)
            raised(self, InvalidStamping, stamps, place=place, strip=strip, word=word)
        self.assertEqual(stamps.words, words)

    def test_every_place_of_short_strips(self):
        for words in (["a"], ["a", "b"], ["ab", "cd"], ["abc"], ["abcdefgh", "hgfedcba"]):
            for strip in (".", "z", "..", "z.", "...", "xyz", ".....", "vwxyz", "v.x.z", "z" * 8, "." * 9):
                for word in range(-3, 9):
                    for place in range(-10, 14):
                        self.check(words, strip, word, place)

    def test_short_and_long_strips(self):
        self.assertEqual(Stamps("a")(".", 0, 0), "a")
        self.assertEqual(Stamps("a", "b")("z", 1, 0), "b")
        self.assertEqual(Stamps("ab")("." * 120, 0, 118), "." * 118 + "ab")
        self.assertEqual(Stamps("ab")("z" * 120, 0, 0), "ab" + "z" * 118)
        for place in (-1, 0, 1, 59, 60, 112, 113, 118, 119, 120, 121):
            self.check(["ab"], "." * 120, 0, place)
            self.check(["abcdefgh"], "z" * 120, 0, place)
            self.check(["a", "b"], "z" * 119, 1, place)

    def test_large_numbers(self):
        for number in (BIG, -BIG, 10 ** 59, -10 ** 59, 2 ** 63, -2 ** 63, 2 ** 64):
            self.check(["ab", "cd"], ".....", number, 0)
            self.check(["ab", "cd"], ".....", 0, number)
            self.check(["ab", "cd"], ".....", number, number)

    def test_strips_that_are_none(self):
        stamps = Stamps("ab", "ba")
        for strip in odd_things() + [[], "", "." * 121, "z" * 121, "..A", "..1", ".. ", "..\n", ["."], ("..",), "..?"]:
            raised(self, InvalidStrip, stamps, strip, 0, 0)
            raised(self, InvalidStrip, stamps, strip=strip, word=0, place=0)

    def test_the_strip_is_looked_at_first(self):
        stamps = Stamps("ab", "ba")
        for strip in ("", "." * 121, None, "..A", [], 7, True):
            for word, place in ((5, 0), (-1, 0), (0, -1), (0, 500), (BIG, BIG)):
                raised(self, InvalidStrip, stamps, strip, word, place)

    def test_a_stamping_wider_than_the_strip(self):
        raised(self, InvalidStamping, Stamps("ab"), ".", 0, 0)
        raised(self, InvalidStamping, Stamps("abcdefgh"), "." * 7, 0, 0)
        self.assertEqual(Stamps("abcdefgh")("." * 8, 0, 0), "abcdefgh")

    def test_equal_calls_have_equal_results(self):
        stamps = Stamps("ab", "cd")
        before = stamps("....", 1, 1)
        self.assertEqual(stamps(before, 0, 2), ".cab")
        self.assertEqual(stamps("....", 1, 1), before)
        self.assertEqual(Stamps("ab", "cd")("....", 1, 1), before)


if __name__ == "__main__":
    unittest.main()
