"""Points 2, 5 and 12: what is no strip and no text of the same size, and what changes are asked with."""

import copy
import unittest

from overstamps.bands import Band
from overstamps.changes import can_change, change, fewest_change
from overstamps.errors import InvalidStrip, InvalidText, NotPossible, StampError
from overstamps.stamps import Stamps
from tests import model
from tests.things import bad_texts, most_cells, odd_things, raised

CALLS = (can_change, fewest_change, change)


def bands():
    for kind in model.KINDS:
        for words in (["ab", "ba"], ["a"], ["abc", "bca"]):
            yield kind, Band.named(kind, Stamps(*words))


def bad_strips(kind):
    """Objects that are no strip of the band, although some are strips of another one."""
    more = [[], ["ab"], [".", "."], "A", "a?", "?", "ab.\n", "a b", ". .", "a" * 121, "." * 121, ".A", "-", "a,b"]
    if kind == "ring":
        more = more + ["." * 61, "a" * 61, "ab." * 30, "." * 120]
    return odd_things() + more


class Wrong(unittest.TestCase):
    def test_old_strips(self):
        for kind, band in bands():
            for call in CALLS:
                for old in bad_strips(kind):
                    raised(self, InvalidStrip, call, band, old, "ab")
                    raised(self, InvalidStrip, call, band=band, old=old, new="a")

    def test_new_texts(self):
        for kind, band in bands():
            for call in CALLS:
                for new in bad_texts(kind):
                    raised(self, InvalidText, call, band, "ab", new)
                    raised(self, InvalidText, call, new=new, old=".", band=band)

    def test_a_new_text_is_no_strip_with_empty_cells(self):
        for kind, band in bands():
            for call in CALLS:
                for new in (".", "..", "a.", ".a", "." * most_cells(kind)):
                    raised(self, InvalidText, call, band, new, new)
                    raised(self, InvalidText, call, band, "a" * len(new), new)

    def test_both_at_once(self):
        for kind, band in bands():
            for call in CALLS:
                for old in bad_strips(kind):
                    for new in ("A", "", "a.", None, "a" * 121, 0, ["a"]):
                        raised(self, InvalidStrip, call, band, old, new)

    def test_other_sizes(self):
        for kind, band in bands():
            most = most_cells(kind)
            for call in CALLS:
                for many in (1, 2, 3, 10, most - 1, most):
                    for size in (1, 2, 3, 9, 10, 11, most - 1, most):
                        if size != many:
                            raised(self, InvalidText, call, band, "a" * many, "a" * size)
                            raised(self, InvalidText, call, band, "." * many, "z" * size)
                raised(self, InvalidText, call, band, "a" * most, "a" * (most + 1))
                raised(self, InvalidStrip, call, band, "a" * (most + 1), "a" * most)
                raised(self, InvalidStrip, call, band, "a" * (most + 1), "a" * (most + 1))

    def test_the_sizes_at_the_limits(self):
        for kind, band in bands():
            for size in (1, most_cells(kind)):
                self.assertEqual(fewest_change(band, "a" * size, "a" * size), 0)
                self.assertIs(can_change(band, "." * size, "z" * size), False)
                raised(self, NotPossible, change, band, "." * size, "z" * size)

    def test_what_cannot_be(self):
        for kind, band in bands():
            for old, new in ((".", "z"), ("..", "zz"), ("z.", "az"), ("abab", "abzb"), ("....", "qqqz")):
                self.assertIs(can_change(band, old, new), False)
                self.assertIsNone(fewest_change(band, old, new))
                raised(self, NotPossible, change, band, old, new)

    def test_errors_are_stamp_errors(self):
        for kind, band in bands():
            for old, new in (("A", "a"), ("a", "A"), ("a", "aa"), ("a", "z")):
                for call in CALLS:
                    try:
                        call(band, old, new)
                    except Exception as error:
                        self.assertIsInstance(error, StampError)


class Askings(unittest.TestCase):
    def test_by_position_and_by_name(self):
        for kind, band in bands():
            old, new = "zzz" + "." * len(band.stamps.words[0]), "zzz" + band.stamps.words[0]
            self.assertEqual(change(band, old, new), [(0, 3)])
            self.assertEqual(change(band=band, old=old, new=new), [(0, 3)])
            self.assertEqual(change(band, new=new, old=old), [(0, 3)])
            self.assertEqual(fewest_change(new=new, band=band, old=old), 1)
            self.assertIs(can_change(band, old, new=new), True)

    def test_arguments_do_not_change(self):
        for kind, band in bands():
            words = band.stamps.words
            for thing in (["ab"], [["a"], "b"], {"a": ["b"]}, [1, [2]]):
                before = copy.deepcopy(thing)
                for call in CALLS:
                    raised(self, InvalidStrip, call, band, thing, "ab")
                    raised(self, InvalidText, call, band, "ab", thing)
                self.assertEqual(thing, before)
            self.assertEqual(fewest_change(band, "zzz", "zzz"), 0)
            self.assertEqual(band.stamps.words, words)

    def test_new_lists(self):
        for kind, band in bands():
            old, new = "zzz" + "." * len(band.stamps.words[0]), "zzz" + band.stamps.words[0]
            for strip in (old, new):
                one, other = change(band, strip, new), change(band, strip, new)
                self.assertEqual(one, other)
                self.assertIsNot(one, other)
                one.append((7, 7))
                self.assertEqual(change(band, strip, new), other)


if __name__ == "__main__":
    unittest.main()
