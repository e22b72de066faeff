"""Points 2, 5 and 8: wrong arguments of the countings, and how the functions are called."""

import copy
import inspect
import unittest

from overstamps import counting
from overstamps.bands import Band
from overstamps.counting import count_fewest, count_splittings, nth_splitting, splitting_index, splittings
from overstamps.errors import InvalidNumber, InvalidParts, InvalidText
from overstamps.stamps import Stamps
from tests import model
from tests.things import BIG, bad_texts, odd_things, raised

TEXTS = {"line": "aabaab", "window": "abaaba", "ring": "baabaa"}


def bands():
    for kind in model.KINDS:
        yield Band.named(kind, Stamps("aab", "aba")), TEXTS[kind]


def listed(band, text):
    return list(splittings(band, text))


class Interface(unittest.TestCase):
    def test_names_and_arguments(self):
        wanted = {
            "count_splittings": ["band", "text"], "splittings": ["band", "text"],
            "nth_splitting": ["band", "text", "index"], "splitting_index": ["band", "text", "parts"],
            "count_fewest": ["band", "text"],
        }
        for name, names in wanted.items():
            function = getattr(counting, name)
            self.assertEqual(function.__module__, "overstamps.counting")
            self.assertEqual(list(inspect.signature(function).parameters), names)

    def test_by_position_and_by_name(self):
        for band, text in bands():
            every = list(splittings(text=text, band=band))
            self.assertEqual(every, listed(band, text))
            self.assertEqual(count_splittings(text=text, band=band), len(every))
            self.assertEqual(count_fewest(text=text, band=band), count_fewest(band, text))
            for index, parts in enumerate(every):
                self.assertEqual(nth_splitting(index=index, text=text, band=band), parts)
                self.assertEqual(splitting_index(parts=parts, band=band, text=text), index)

    def test_kinds_of_results(self):
        for band, text in bands():
            for number in (count_splittings(band, text), count_fewest(band, text)):
                self.assertIs(type(number), int)
            for index, parts in enumerate(splittings(band, text)):
                self.assertIs(type(parts), list)
                for part in parts + nth_splitting(band, text, index):
                    self.assertIs(type(part), tuple)
                    self.assertEqual([type(number) for number in part], [int] * 4)
                self.assertIs(type(splitting_index(band, text, parts)), int)


class Wrong(unittest.TestCase):
    def test_texts(self):
        for band, text in bands():
            parts = band.splitting(text)
            for wrong in bad_texts(band.NAME):
                before = copy.deepcopy(wrong) if isinstance(wrong, (list, dict)) else wrong
                for call, given in (
                    (count_splittings, ()), (listed, ()), (count_fewest, ()), (nth_splitting, (0,)),
                    (splitting_index, (parts,)),
                ):
                    raised(self, InvalidText, call, band, wrong, *given)
                if isinstance(wrong, (list, dict)) and not repr(wrong).count("object at"):
                    self.assertEqual(wrong, before)

    def test_sizes_at_the_limits(self):
        for kind in model.KINDS:
            band = Band.named(kind, Stamps("a", "b"))
            most = 60 if kind == "ring" else 120
            self.assertEqual(count_splittings(band, "a" * most), 1)
            self.assertEqual(count_fewest(band, "a" * most), 1)
            self.assertEqual(len(listed(band, "a" * most)), 1)
            self.assertEqual(splitting_index(band, "a" * most, nth_splitting(band, "a" * most, 0)), 0)
            for call in (count_splittings, count_fewest, listed):
                raised(self, InvalidText, call, band, "a" * (most + 1))
                raised(self, InvalidText, call, band, "")
            raised(self, InvalidText, nth_splitting, band, "a" * (most + 1), 0)
            raised(self, InvalidText, splitting_index, band, "a" * (most + 1), [])

    def test_indexes(self):
        for band, text in bands():
            many = count_splittings(band, text)
            for index in (-1, -2, -many, many, many + 1, 2 * many, BIG, -BIG, 10 ** 59, 2 ** 64):
                raised(self, InvalidNumber, nth_splitting, band, text, index)
                raised(self, InvalidNumber, nth_splitting, band, index=index, text=text)
            raised(self, InvalidNumber, nth_splitting, band, "zzz", 0)

    def test_parts(self):
        for band, text in bands():
            parts = band.splitting(text)
            wrong = odd_things() + [
                [], parts + parts, parts[::-1], parts[1:], parts[:-1], tuple(parts), [list(part) for part in parts],
                [part[:3] for part in parts], [part + (0,) for part in parts], [parts], [(0, 0, 0, 1)] * 2999,
                [(False,) + parts[0][1:]] + parts[1:], text, band, [text], [parts[0]] * len(parts),
            ]
            for thing in wrong:
                if not (isinstance(thing, list) and band.is_splitting(text, thing)):
                    raised(self, InvalidParts, splitting_index, band, text, thing)
                    raised(self, InvalidParts, splitting_index, parts=thing, band=band, text=text)

    def test_the_first_wrong_argument_decides(self):
        for band, text in bands():
            for wrong in ("", "A", ".", None, 7, ["ab"], "a" * 121):
                for index in (-1, BIG):
                    raised(self, InvalidText, nth_splitting, band, wrong, index)
                    raised(self, InvalidText, nth_splitting, index=index, text=wrong, band=band)
                for parts in ([], None, [(0, 0, 0, 99)], "ab"):
                    raised(self, InvalidText, splitting_index, band, wrong, parts)
            raised(self, InvalidText, splitting_index, band, band.splitting(text), text)

    def test_arguments_do_not_change(self):
        for band, text in bands():
            parts = band.splitting(text)
            before = copy.deepcopy(parts)
            splitting_index(band, text, parts)
            self.assertEqual(parts, before)
            wrong = parts + [(0, 0, 0, 1)]
            before = copy.deepcopy(wrong)
            raised(self, InvalidParts, splitting_index, band, text, wrong)
            self.assertEqual(wrong, before)
            self.assertEqual(band.stamps.words, ["aab", "aba"])


if __name__ == "__main__":
    unittest.main()
