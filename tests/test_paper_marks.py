"""Points 2, 5 and 13: marks of papers, and what papers do not take."""

import copy
import random
import unittest

from overstamps.bands import Band
from overstamps.errors import InvalidNumber, InvalidStamping, NothingToUndo
from overstamps.paper import Paper
from overstamps.stamps import Stamps
from tests import model
from tests.sheets import state
from tests.things import BIG, most_cells, odd_things, raised

WORDS = ["abc", "xyz"]


def paper_of(kind, size, words=None):
    return Paper(Band.named(kind, Stamps(*(words or WORDS))), size)


def with_marks():
    """Papers with five stampings and marks: two before them, one behind the second, two behind the fourth."""
    for kind in model.KINDS:
        paper = paper_of(kind, 7)
        paper.mark()
        paper.mark()
        paper.press_all((0, 0), (1, 2))
        paper.mark()
        paper.press_all((1, 1), (0, 3))
        paper.mark()
        paper.mark()
        paper.press(1, 4)
        yield kind, paper


class Marks(unittest.TestCase):
    def test_numbers(self):
        for kind, paper in with_marks():
            self.assertEqual(paper.mark(), 5)
            self.assertEqual(paper.mark(), 6)

    def test_back_to_each_mark(self):
        for kind, paper in with_marks():
            strips = {0: 0, 1: 0, 2: 2, 3: 4, 4: 4}
            stampings = paper.stampings
            for index, many in strips.items():
                twin = paper.twin()
                self.assertIsNone(twin.undo_to(index))
                self.assertEqual(twin.stampings, stampings[:many])
                again = paper_of(kind, 7)
                again.press_all(*stampings[:many])
                self.assertEqual((twin.shown, twin.layers()), (again.shown, again.layers()))
                # The mark is kept, and the later ones are gone.
                for gone in range(index + 1, 6):
                    raised(self, InvalidNumber, twin.undo_to, gone)
                twin.undo_to(index)
                twin.undo_to(index)
                self.assertEqual(twin.stampings, stampings[:many])
                self.assertEqual(twin.mark(), index + 1)

    def test_back_from_one_mark_to_an_earlier_one(self):
        for kind, paper in with_marks():
            stampings = paper.stampings
            for index, many in ((4, 4), (3, 4), (2, 2), (1, 0), (0, 0)):
                paper.undo_to(index)
                self.assertEqual(paper.stampings, stampings[:many])
            raised(self, InvalidNumber, paper.undo_to, 1)

    def test_undo_removes_the_marks_behind_the_undone_press(self):
        for kind, paper in with_marks():
            stampings = paper.stampings
            # The last press has no mark behind it, the one before it has two.
            paper.undo()
            self.assertEqual(paper.twin().mark(), 5)
            paper.undo()
            self.assertEqual(paper.twin().mark(), 3)
            raised(self, InvalidNumber, paper.undo_to, 3)
            paper.press(0, 0)
            raised(self, InvalidNumber, paper.undo_to, 3)
            self.assertEqual(paper.mark(), 3)
            paper.undo()
            paper.undo()
            self.assertEqual(paper.stampings, stampings[:2])
            self.assertEqual(paper.twin().mark(), 3)
            paper.undo()
            self.assertEqual(paper.twin().mark(), 2)
            paper.undo()
            self.assertEqual(paper.twin().mark(), 2)
            raised(self, NothingToUndo, paper.undo)
            paper.undo_to(1)
            paper.undo_to(0)
            self.assertEqual(paper.mark(), 1)

    def test_undo_behind_undo_to(self):
        for kind, paper in with_marks():
            stampings = paper.stampings
            paper.undo_to(3)
            paper.undo()
            self.assertEqual(paper.stampings, stampings[:3])
            raised(self, InvalidNumber, paper.undo_to, 3)
            paper.undo_to(2)
            self.assertEqual(paper.stampings, stampings[:2])

    def test_a_mark_behind_an_undone_press_at_an_older_place(self):
        paper = paper_of("line", 5)
        paper.press(0, 0)
        paper.mark()
        paper.press(1, 2)
        paper.undo()
        self.assertEqual(paper.mark(), 1)
        paper.press(1, 1)
        paper.undo_to(1)
        self.assertEqual(paper.stampings, [(0, 0)])
        paper.undo()
        raised(self, InvalidNumber, paper.undo_to, 0)
        self.assertEqual(paper.mark(), 0)

    def test_numbers_that_are_gone_or_never_were(self):
        for kind, paper in with_marks():
            paper.undo_to(3)
            before = state(paper, 4)
            for index in (-1, -2, -4, 4, 5, 6, 60, BIG, -BIG):
                raised(self, InvalidNumber, paper.undo_to, index)
                raised(self, InvalidNumber, paper.undo_to, index=index)
            self.assertEqual(state(paper, 4), before)
        for kind in model.KINDS:
            paper = paper_of(kind, 3)
            for index in (0, 1, -1, BIG):
                raised(self, InvalidNumber, paper.undo_to, index)

    def test_many_marks_at_one_place(self):
        paper = paper_of("ring", 60)
        for number in range(100):
            self.assertEqual(paper.mark(), number)
        for number in range(100):
            paper.press(number % 2, number % 60)
        for number in (99, 98, 3, 0):
            paper.undo_to(number)
            self.assertEqual((paper.shown, paper.stampings), ("." * 60, []))
            raised(self, InvalidNumber, paper.undo_to, number + 1)


class Sizes(unittest.TestCase):
    def test_sizes(self):
        for kind in model.KINDS:
            most = most_cells(kind)
            for size in (1, 2, 3, 59, 60, 61, 100, 119, 120, 121, 0, -1, -60, 4000, BIG, -BIG):
                if 1 <= size <= most:
                    self.assertEqual(paper_of(kind, size).shown, "." * size)
                else:
                    raised(self, InvalidNumber, paper_of, kind, size)

    def test_any_object(self):
        for kind in model.KINDS:
            band = Band.named(kind, Stamps(*WORDS))
            sizes = [thing for thing in odd_things() if type(thing) is not int or not 1 <= thing <= 60]
            for size in sizes + ["5", [5], (5,), {"a": 5}, True, False, band, paper_of(kind, 5)]:
                raised(self, InvalidNumber, Paper, band, size)
                raised(self, InvalidNumber, Paper, band=band, size=size)

    def test_rings_of_fewer_cells_than_a_word_has_letters(self):
        for size in (1, 2):
            paper = paper_of("ring", size)
            before = state(paper, 0)
            for word in (0, 1, 2):
                for place in range(-3, 4):
                    raised(self, InvalidStamping, paper.press, word, place)
                    raised(self, InvalidStamping, paper.press_all, (word, place))
            self.assertEqual(state(paper, 0), before)
            paper.press_all()
            self.assertEqual((paper.shown, paper.mark(), paper.layers()), ("." * size, 0, [0] * size))
        paper = paper_of("ring", 3)
        paper.press(1, 2)
        self.assertEqual(paper.shown, "yzx")


class Stampings(unittest.TestCase):
    def pressed(self):
        """A paper of each band with stampings and a mark."""
        for kind in model.KINDS:
            for words in (WORDS, ["a", "b"], ["abcdefgh"]):
                size = 8 + len(words[0])
                paper = paper_of(kind, size, words)
                paper.press_all((0, 1), (len(words) - 1, 0))
                paper.mark()
                paper.press(0, 1)
                yield kind, size, words, paper

    def test_just_outside_and_far_outside(self):
        for kind, size, words, paper in self.pressed():
            before = state(paper, 1)
            words_given = (-1, 0, len(words) - 1, len(words), 5, 6, BIG, -BIG)
            for word in words_given:
                for place in (-BIG, -120, -len(words[0]), -1, size, size + 1, 120, BIG, size - len(words[0]) + 1):
                    if not model.fits(kind, size, words, word, place):
                        raised(self, InvalidStamping, paper.press, word, place)
                        raised(self, InvalidStamping, paper.press, place=place, word=word)
                        raised(self, InvalidStamping, paper.press_all, (0, 0), (word, place), (0, 1))
            self.assertEqual(state(paper, 1), before)

    def test_all_places(self):
        for kind, size, words, paper in self.pressed():
            band = Band.named(kind, Stamps(*words))
            for word in range(-1, len(words) + 1):
                for place in range(-10, size + 3):
                    twin = paper.twin()
                    if model.fits(kind, size, words, word, place):
                        twin.press(word, place)
                        self.assertEqual(twin.shown, model.pressed(kind, paper.shown, words, word, place))
                        self.assertEqual(twin.shown, band.stamped(paper.shown, word, place))
                    else:
                        raised(self, InvalidStamping, twin.press, word, place)
                        self.assertEqual(twin.shown, paper.shown)

    def test_the_outermost_places(self):
        line, window, ring = (paper_of(kind, 5) for kind in model.KINDS)
        line.press_all((0, 0), (1, 2))
        self.assertEqual(line.shown, "abxyz")
        window.press_all((0, -2), (1, 4))
        self.assertEqual(window.shown, "c...x")
        ring.press_all((0, 0), (1, 4))
        self.assertEqual(ring.shown, "yzc.x")
        for paper, place in ((line, -1), (line, 3), (window, -3), (window, 5), (ring, -1), (ring, 5)):
            raised(self, InvalidStamping, paper.press, 0, place)

    def test_any_objects_among_valid_ones(self):
        more = [
            [0, 0], (0,), (0, 0, 0), (True, 0), (False, 0), (0, True), (0, False), (None, 0), (0, None), ("0", 0),
            (0, "0"), ([0], 0), ((0, 0),), ((0, 0), (0, 1)), [(0, 0)], "00", {0: 0}, (2, 0), (0, 99), (0, -99), "0@0",
        ]
        for kind, size, words, paper in self.pressed():
            before = state(paper, 1)
            for thing in odd_things() + more:
                copied = copy.deepcopy(thing) if isinstance(thing, (list, dict)) else thing
                raised(self, InvalidStamping, paper.press_all, thing)
                raised(self, InvalidStamping, paper.press_all, (0, 0), (0, 1), thing)
                raised(self, InvalidStamping, paper.press_all, (0, 0), thing, (0, 1))
                raised(self, InvalidStamping, paper.press_all, thing, (0, 0))
                if isinstance(thing, (list, dict)):
                    self.assertEqual(thing, copied)
            self.assertEqual(state(paper, 1), before)

    def test_seen_out_of_range(self):
        for kind, size, words, paper in self.pressed():
            before = state(paper, 1)
            for index in (-1, -2, -3, 3, 4, 200, BIG, -BIG):
                raised(self, InvalidNumber, paper.seen, index)
                raised(self, InvalidNumber, paper.seen, index=index)
            self.assertEqual(state(paper, 1), before)
            for _ in range(3):
                paper.undo()
            for index in (0, -1, 1):
                raised(self, InvalidNumber, paper.seen, index)

    def test_errors_are_no_calls_that_can_be_undone(self):
        for kind, size, words, paper in self.pressed():
            stampings = paper.stampings
            raised(self, InvalidStamping, paper.press, len(words), 0)
            raised(self, InvalidNumber, paper.undo_to, 1)
            raised(self, InvalidStamping, paper.press_all, (0, 0), None)
            paper.undo()
            self.assertEqual(paper.stampings, stampings[:-1])
            self.assertEqual(paper.mark(), 1)


class Drawn(unittest.TestCase):
    def test_wrong_calls_between_others(self):
        chance = random.Random(9)
        for kind in model.KINDS:
            paper = paper_of(kind, 9)
            history = []
            for _ in range(200):
                word, place = chance.randint(-1, 2), chance.randint(-4, 10)
                if model.fits(kind, 9, WORDS, word, place):
                    paper.press(word, place)
                    history.append((word, place))
                else:
                    raised(self, InvalidStamping, paper.press, word, place)
            self.assertEqual(paper.stampings, history)
            self.assertEqual(paper.shown, model.ended(kind, 9, WORDS, history))


if __name__ == "__main__":
    unittest.main()
