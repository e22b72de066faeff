"""Points 2, 3, 5 and 7: replay."""

import copy
import unittest

from overstamps.bands import Band, Line, Ring, Window
from overstamps.errors import InvalidNumber, InvalidStamping
from overstamps.stamps import Stamps
from tests import model
from tests.things import BIG, filled_by_history, long_stamps, odd_things, raised


def first_step(band, size, stampings):
    return next(iter(band.replay(size, stampings)))


def strips_of(kind, size, words, history):
    return [model.ended(kind, size, words, history[:many]) for many in range(len(history) + 1)]


class Strips(unittest.TestCase):
    def test_examples(self):
        stamps = Stamps("abc", "xyz")
        self.assertEqual(list(Line(stamps).replay(5, [])), ["....."])
        self.assertEqual(list(Line(stamps).replay(5, [(0, 0), (1, 2)])), [".....", "abc..", "abxyz"])
        self.assertEqual(list(Window(stamps).replay(3, [(0, -2), (1, 1)])), ["...", "c..", "cxy"])
        self.assertEqual(list(Ring(stamps).replay(4, [(0, 3), (1, 0)])), ["....", "bc.a", "xyza"])

    def test_all_short_histories(self):
        for kind in model.KINDS:
            for words in (["a", "b"], ["ab", "ba"], ["abc"]):
                band = Band.named(kind, Stamps(*words))
                for size in (1, 2, 3, 4):
                    every = model.stampings(kind, size, words)
                    histories = [[]] + [[one] for one in every] + [[one, other] for one in every for other in every]
                    for history in histories:
                        self.assertEqual(list(band.replay(size, history)), strips_of(kind, size, words, history))

    def test_long_histories(self):
        for kind in model.KINDS:
            for words in long_stamps():
                size = 60 if kind == "ring" else 120
                history, text = filled_by_history(kind, size, words, 6)
                strips = list(Band.named(kind, Stamps(*words)).replay(size=size, stampings=history))
                self.assertEqual(strips, strips_of(kind, size, words, history))
                self.assertEqual(strips[-1], text)

    def test_number_of_stampings(self):
        for kind in model.KINDS:
            band = Band.named(kind, Stamps("ab", "ba"))
            for many in (0, 1, 2, 199, 200):
                history = [(at // 3 % 2, at % 7) for at in range(many)]
                self.assertEqual(list(band.replay(10, history)), strips_of(kind, 10, ["ab", "ba"], history))
            for many in (201, 202, 1000):
                raised(self, InvalidStamping, first_step, band, 10, [(0, 0)] * many)

    def test_sizes(self):
        for kind in model.KINDS:
            words = ["ab", "ba"]
            band = Band.named(kind, Stamps(*words))
            most = 60 if kind == "ring" else 120
            for size in (1, 2, 59, 60, 61, 119, 120, 121, 0, -1, -60, 200, BIG, -BIG):
                if 1 <= size <= most:
                    self.assertEqual(list(band.replay(size, [])), ["." * size])
                    if size > 1:
                        history = [(1, size - 2), (0, 0)]
                        self.assertEqual(list(band.replay(size, history)), strips_of(kind, size, words, history))
                else:
                    raised(self, InvalidNumber, first_step, band, size, [])
                    raised(self, InvalidNumber, first_step, band, size, [(0, 0)])

    def test_a_ring_of_fewer_cells_than_a_word(self):
        ring = Ring(Stamps("abc"))
        self.assertEqual(list(ring.replay(2, [])), [".."])
        raised(self, InvalidStamping, first_step, ring, 2, [(0, 0)])
        self.assertEqual(list(ring.replay(3, [(0, 2)])), ["...", "bca"])


class Runs(unittest.TestCase):
    def bands(self):
        for kind in model.KINDS:
            words = ["ab", "cd"]
            history = [(0, 0), (1, 1), (0, 3), (1, 0), (1, 3)]
            yield Band.named(kind, Stamps(*words)), history, strips_of(kind, 5, words, history)

    def test_twice(self):
        for band, history, strips in self.bands():
            self.assertEqual(list(band.replay(5, history)), strips)
            self.assertEqual(list(band.replay(5, history)), strips)
            self.assertEqual(list(Band.named(band.NAME, Stamps("ab", "cd")).replay(5, history)), strips)

    def test_stopped_early(self):
        for band, history, strips in self.bands():
            for many in range(1, 6):
                run = iter(band.replay(5, history))
                self.assertEqual([next(run) for _ in range(many)], strips[:many])
            self.assertEqual(list(band.replay(5, history)), strips)

    def test_side_by_side(self):
        for band, history, strips in self.bands():
            one, other = iter(band.replay(5, history)), iter(band.replay(5, history))
            self.assertEqual(next(one), strips[0])
            self.assertEqual(next(one), strips[1])
            self.assertEqual(next(other), strips[0])
            self.assertEqual(list(one), strips[2:])
            self.assertEqual(list(other), strips[1:])

    def test_different_runs_side_by_side(self):
        line = Line(Stamps("ab", "cd"))
        pairs = list(zip(line.replay(3, [(0, 0), (1, 1)]), line.replay(4, [(1, 0), (0, 2)])))
        self.assertEqual(pairs, [("...", "...."), ("ab.", "cd.."), ("acd", "cdab")])

    def test_arguments_do_not_change(self):
        for band, history, strips in self.bands():
            before = copy.deepcopy(history)
            run = iter(band.replay(5, history))
            next(run)
            next(run)
            self.assertEqual(history, before)
            list(run)
            self.assertEqual(history, before)
            wrong = history + [(9, 9), [0, 0]]
            raised(self, InvalidStamping, first_step, band, 5, wrong)
            self.assertEqual(wrong, before + [(9, 9), [0, 0]])
            self.assertEqual(band.stamps.words, ["ab", "cd"])


class Wrong(unittest.TestCase):
    def test_lists_that_are_none(self):
        for kind in model.KINDS:
            band = Band.named(kind, Stamps("ab", "cd"))
            for thing in odd_things() + [((0, 0), (1, 1)), {"a": (0, 0)}, "", "0@0"]:
                raised(self, InvalidStamping, first_step, band, 5, thing)
                raised(self, InvalidStamping, lambda: list(band.replay(stampings=thing, size=5)))

    def test_stampings_of_other_kinds(self):
        kinds = [[0, 0], (0,), (), (0, 0, 0), (True, 0), (False, 0), (0, True), (0, False), (None, 0), (0, None),
                 ("0", 0), (0, "0"), ("ab", 0), ([0], 0), (0, [0]), ((0, 0),), ((0,), 0), "ab", "00", {0: 0}, None, 0,
                 True, {}, [], [(0, 0)], {"a": 0, "b": 0}, (0, {}), (0, (0,))]
        for kind in model.KINDS:
            band = Band.named(kind, Stamps("ab", "cd"))
            for thing in kinds:
                for history in ([thing], [(0, 0), thing], [thing, (0, 0)], [(0, 0)] * 199 + [thing]):
                    raised(self, InvalidStamping, first_step, band, 5, history)

    def test_stampings_that_do_not_fit(self):
        for kind in model.KINDS:
            words = ["abc", "bcd"]
            band = Band.named(kind, Stamps(*words))
            for size in (1, 2, 3, 5):
                for word in range(-2, 4):
                    for place in list(range(-5, 8)) + [BIG, -BIG]:
                        if model.fits(kind, size, words, word, place):
                            wanted = strips_of(kind, size, words, [(word, place)])
                            self.assertEqual(list(band.replay(size, [(word, place)])), wanted)
                        else:
                            raised(self, InvalidStamping, first_step, band, size, [(word, place)])
                            raised(self, InvalidStamping, first_step, band, size, [(0, 0)] * 3 + [(word, place)])
            raised(self, InvalidStamping, first_step, band, 5, [(BIG, 0)])
            raised(self, InvalidStamping, first_step, band, 5, [(0, 0)] * 199 + [(0, 5 if kind != "line" else 3)])


if __name__ == "__main__":
    unittest.main()
