"""Points 2, 3 and 13: what papers show behind each call, and their twins."""

import random
import unittest

from overstamps.bands import Band
from overstamps.errors import NothingToUndo
from overstamps.paper import Paper
from overstamps.stamps import Stamps
from tests import model
from tests.sheets import Sheet, state, state_of_sheet
from tests.things import drawn_stamps, long_stamps, most_cells, raised

CALLS = ["press", "press", "press", "press", "press_all", "undo", "mark", "undo_to"]


def made(kind, words, size):
    return Paper(Band.named(kind, Stamps(*words)), size), Sheet(kind, words, size)


def papers(rounds, seed):
    """Papers of all bands and their sheets, with the stampings that fit and a source of draws."""
    chance = random.Random(seed)
    for words in long_stamps() + [drawn_stamps(chance) for _ in range(rounds)]:
        for kind in model.KINDS:
            least = 1 if kind == "window" else len(words[0])
            size = chance.choice([least, most_cells(kind), chance.randint(least, most_cells(kind)), least + 2])
            yield made(kind, words, size) + (model.stampings(kind, size, words), chance)


class Calls(unittest.TestCase):
    def check(self, paper, sheet):
        self.assertEqual(state(paper, sheet.marks()), state_of_sheet(sheet), (sheet.kind, sheet.words, sheet.made))

    def call(self, name, paper, sheet, every, chance):
        """Make one call on both; calls that would raise an error are not made. Return how many calls it counts as."""
        if name == "press":
            word, place = chance.choice(every)
            self.assertIsNone(paper.press(word, place))
            sheet.press(word, place)
        elif name == "press_all":
            stampings = [chance.choice(every) for _ in range(chance.randint(0, 3))]
            self.assertIsNone(paper.press_all(*stampings))
            for word, place in stampings:
                sheet.press(word, place)
            return len(stampings)
        elif name == "undo" and sheet.stampings():
            self.assertIsNone(paper.undo())
            sheet.undo()
        elif name == "mark":
            self.assertEqual(paper.mark(), sheet.mark())
        elif name == "undo_to" and sheet.marks():
            index = chance.randrange(sheet.marks())
            self.assertIsNone(paper.undo_to(index))
            sheet.undo_to(index)
        else:
            return 0
        return 1

    def test_drawn_calls(self):
        for paper, sheet, every, chance in papers(20, 1):
            self.check(paper, sheet)
            for _ in range(14):
                self.call(chance.choice(CALLS), paper, sheet, every, chance)
                self.check(paper, sheet)

    def test_two_hundred_calls(self):
        for paper, sheet, every, chance in papers(10, 2):
            many = 0
            while many < 200:
                many += self.call(chance.choice(CALLS), paper, sheet, every, chance)
                self.assertEqual(len(paper), len(sheet.stampings()))
            self.check(paper, sheet)

    def test_two_hundred_stampings(self):
        for paper, sheet, every, chance in papers(5, 3):
            for _ in range(200):
                self.call("press", paper, sheet, every, chance)
            self.check(paper, sheet)

    def test_a_hundred_stampings_undone_one_by_one(self):
        for paper, sheet, every, chance in papers(5, 4):
            for _ in range(100):
                self.call("press", paper, sheet, every, chance)
            for _ in range(100):
                self.call("undo", paper, sheet, every, chance)
                self.assertEqual(paper.shown, sheet.shown())
                self.assertEqual(paper.stampings, sheet.stampings())
            self.assertEqual(len(paper), 0)
            raised(self, NothingToUndo, paper.undo)
            self.check(paper, sheet)
            self.call("press", paper, sheet, every, chance)
            self.check(paper, sheet)

    def test_all_short_histories(self):
        for kind in model.KINDS:
            for words in (["a", "b"], ["ab", "ba"], ["abc"]):
                for size in range(1, 4):
                    every = model.stampings(kind, size, words)
                    for history in [[one, other] for one in every for other in every]:
                        paper, sheet = made(kind, words, size)
                        paper.press_all(*history)
                        for word, place in history:
                            sheet.press(word, place)
                        self.check(paper, sheet)


class Examples(unittest.TestCase):
    def paper(self):
        return Paper(Band.named("line", Stamps("abc", "xyz")), 5)

    def test_presses(self):
        paper = self.paper()
        self.assertEqual((paper.shown, paper.stampings, len(paper)), (".....", [], 0))
        self.assertEqual((paper.hidden(), paper.layers()), ([], [0, 0, 0, 0, 0]))
        paper.press(0, 0)
        paper.press(1, 2)
        self.assertEqual((paper.shown, paper.stampings, len(paper)), ("abxyz", [(0, 0), (1, 2)], 2))
        self.assertEqual((paper.seen(0), paper.seen(1)), ([0, 1], [2, 3, 4]))
        self.assertEqual((paper.hidden(), paper.layers()), ([], [1, 1, 2, 1, 1]))
        paper.press(1, 0)
        self.assertEqual((paper.shown, paper.hidden(), paper.seen(0)), ("xyzyz", [0], []))

    def test_only_cells_of_the_strip(self):
        paper = Paper(Band.named("window", Stamps("abc")), 2)
        paper.press_all((0, -2), (0, 1))
        self.assertEqual((paper.shown, paper.layers(), paper.seen(0), paper.seen(1)), ("ca", [1, 1], [0], [1]))
        ring = Paper(Band.named("ring", Stamps("abc")), 4)
        ring.press_all((0, 3), (0, 0))
        self.assertEqual((ring.shown, ring.layers(), ring.seen(0), ring.seen(1)), ("abca", [2, 2, 1, 1], [3], [0, 1, 2]))
        ring.press(0, 2)
        self.assertEqual((ring.shown, ring.seen(2), ring.hidden()), ("cbab", [0, 2, 3], [0]))

    def test_undo_behind_press_all_undoes_one_stamping(self):
        paper = self.paper()
        paper.press_all((0, 0), (1, 2), (1, 0))
        self.assertIsNone(paper.undo())
        self.assertEqual((paper.shown, paper.stampings), ("abxyz", [(0, 0), (1, 2)]))
        paper.press_all()
        self.assertEqual(paper.stampings, [(0, 0), (1, 2)])
        paper.undo()
        self.assertEqual((paper.shown, paper.stampings), ("abc..", [(0, 0)]))

    def test_nothing_to_undo(self):
        paper = self.paper()
        raised(self, NothingToUndo, paper.undo)
        self.assertEqual(paper.mark(), 0)
        raised(self, NothingToUndo, paper.undo)
        self.assertEqual(paper.mark(), 1)
        paper.press(0, 0)
        paper.undo()
        raised(self, NothingToUndo, paper.undo)
        self.assertEqual((paper.shown, paper.stampings, paper.mark()), (".....", [], 2))

    def test_equal_stampings_on_top_of_each_other(self):
        paper = self.paper()
        paper.press_all((0, 1), (0, 1), (0, 1))
        self.assertEqual((paper.shown, paper.hidden(), paper.layers()), (".abc.", [0, 1], [0, 3, 3, 3, 0]))
        self.assertEqual([paper.seen(index) for index in range(3)], [[], [], [1, 2, 3]])

    def test_by_name(self):
        paper = Paper(band=Band.named("line", Stamps("abc", "xyz")), size=5)
        self.assertIsNone(paper.press(word=0, place=0))
        self.assertIsNone(paper.press(place=2, word=1))
        self.assertIsNone(paper.press(1, place=0))
        self.assertEqual(paper.seen(index=2), [0, 1, 2])
        self.assertEqual(paper.mark(), 0)
        paper.undo()
        paper.mark()
        self.assertIsNone(paper.undo_to(index=0))
        self.assertEqual(paper.stampings, [(0, 0), (1, 2)])
        self.assertEqual(Paper(Band.named("ring", Stamps("a")), size=60).shown, "." * 60)

    def test_kinds_of_results(self):
        paper = self.paper()
        paper.press_all((0, 0), (1, 2), (0, 2))
        self.assertIs(type(paper.shown), str)
        self.assertEqual([type(stamping) for stamping in paper.stampings], [tuple] * 3)
        for numbers in (paper.seen(0), paper.hidden(), paper.layers()):
            self.assertIs(type(numbers), list)
            self.assertTrue(numbers and all(type(number) is int for number in numbers))
        self.assertIs(type(len(paper)), int)
        self.assertIs(type(paper.mark()), int)
        self.assertIs(type(paper.twin()), Paper)

    def test_new_lists(self):
        paper = self.paper()
        paper.press_all((0, 0), (1, 2), (1, 2))
        for asked in (lambda: paper.stampings, paper.hidden, paper.layers, lambda: paper.seen(0)):
            one, other = asked(), asked()
            self.assertEqual(one, other)
            self.assertIsNot(one, other)
            one.append((0, 0))
            one.reverse()
            self.assertEqual(asked(), other)
        self.assertEqual((paper.shown, len(paper)), ("abxyz", 3))

    def test_given_stampings_are_not_kept(self):
        paper = self.paper()
        given = [(0, 0), (1, 2)]
        paper.press_all(*given)
        given.clear()
        self.assertEqual(paper.stampings, [(0, 0), (1, 2)])

    def test_papers_are_equal_to_themselves_alone(self):
        band = Band.named("line", Stamps("abc", "xyz"))
        one, other = Paper(band, 5), Paper(band, 5)
        self.assertTrue(one == one)
        self.assertTrue(one != other and one != one.twin() and one != None and one != ".....")
        self.assertEqual(len({one: 1, other: 2, one.twin(): 3}), 3)


class Twins(unittest.TestCase):
    def test_drawn_twins(self):
        calls = Calls()
        for paper, sheet, every, chance in papers(10, 5):
            pairs = [(paper, sheet)]
            for _ in range(40):
                one, other = chance.choice(pairs)
                if chance.randrange(8) == 0:
                    pairs.append((one.twin(), other.twin()))
                else:
                    calls.call(chance.choice(CALLS), one, other, every, chance)
            for one, other in pairs:
                calls.check(one, other)

    def test_a_twin_of_a_twin(self):
        paper = Paper(Band.named("line", Stamps("abc", "xyz")), 5)
        paper.press(0, 0)
        paper.mark()
        paper.press(1, 2)
        twin = paper.twin()
        third = twin.twin()
        twin.undo_to(0)
        self.assertEqual((paper.shown, twin.shown, third.shown), ("abxyz", "abc..", "abxyz"))
        paper.undo()
        paper.undo()
        self.assertEqual((paper.shown, twin.shown, third.shown), (".....", "abc..", "abxyz"))
        self.assertEqual((paper.mark(), twin.mark(), third.mark()), (0, 1, 1))
        third.undo_to(0)
        third.press(1, 0)
        self.assertEqual((paper.stampings, twin.stampings, third.stampings), ([], [(0, 0)], [(0, 0), (1, 0)]))

    def test_two_papers_of_one_band(self):
        band = Band.named("ring", Stamps("ab", "ba"))
        one, other = Paper(band, 4), Paper(band, 5)
        one.press(0, 3)
        other.mark()
        self.assertEqual((one.shown, other.shown, one.mark(), other.mark()), ("b..a", ".....", 0, 1))

    def test_the_calls_of_a_twin_are_counted_on_their_own(self):
        paper = Paper(Band.named("window", Stamps("ab", "ba")), 7)
        for many in range(200):
            paper.press(many % 2, many % 7)
        twin = paper.twin()
        for _ in range(200):
            twin.undo()
        self.assertEqual((twin.shown, len(twin), len(paper)), ("." * 7, 0, 200))
        raised(self, NothingToUndo, twin.undo)


if __name__ == "__main__":
    unittest.main()
