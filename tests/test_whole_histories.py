"""Points 3, 4 and 7 to 13: what all of the program says of drawn histories, and of all short ones."""

import random
import unittest
from itertools import combinations, product

from overstamps.bands import Band
from overstamps.changes import change, fewest_change
from overstamps.codes import read_parts, read_stampings, write_parts, write_stampings
from overstamps.counting import count_fewest, count_splittings, nth_splitting, splitting_index, splittings
from overstamps.orders import always_before, count_orders, is_order, may_be_first, may_be_last, nth_order, order_index
from overstamps.paper import Paper
from overstamps.stamps import Stamps
from overstamps.tables import shows, table_of
from overstamps.unknown import can_fill, fewest_fill, least_fill, possible_letters
from tests import model, overs
from tests.things import drawn_stamps, long_stamps, most_cells


def drawn_histories(rounds, seed):
    """Bands of all kinds with a history that leaves no empty cell, the text at its end, and a source of draws."""
    chance = random.Random(seed)
    for words in long_stamps() + [drawn_stamps(chance) for _ in range(rounds)]:
        width = len(words[0])
        for kind in model.KINDS:
            most = most_cells(kind)
            # Short strips have few parts, so that their orders can be asked for.
            for size in (most, chance.randint(width, most), min(most, chance.randint(width, 3 * width + 9))):
                history, text = overs.printed_over(kind, words, "." * size, chance.choice([0, 4, 20, 60]), chance)
                yield kind, words, history, text, chance


def part_seen(kind, size, width, stamping, cells):
    """The part that is seen of a stamping, given the cells that show it."""
    word, place = stamping
    under = model.cells_under(kind, size, width, place)
    offsets = [offset for offset, cell in enumerate(under) if cell in cells]
    assert offsets == list(range(offsets[0], offsets[0] + len(cells)))
    return under[offsets[0]], word, offsets[0], len(cells)


def seen_parts(kind, words, paper):
    """The splitting that is seen of a covered paper, and the order in which its parts were pressed."""
    size = len(paper.shown)
    hidden = paper.hidden()
    stampings = paper.stampings
    rows = [
        part_seen(kind, size, len(words[0]), stampings[index], paper.seen(index))
        for index in range(len(paper)) if index not in hidden
    ]
    parts = sorted(rows)
    return parts, [parts.index(row) for row in rows]


class Histories(unittest.TestCase):
    def papers(self, rounds, seed):
        for kind, words, history, text, chance in drawn_histories(rounds, seed):
            band = Band.named(kind, Stamps(*words))
            paper = Paper(band, len(text))
            paper.press_all(*history)
            yield kind, words, band, paper, text, chance

    def test_papers_cell_by_cell(self):
        for kind, words, band, paper, text, chance in self.papers(25, 1):
            size = len(text)
            history = paper.stampings
            self.assertEqual(paper.shown, text)
            cells = [paper.seen(index) for index in range(len(paper))]
            self.assertEqual(cells, model.seen(kind, size, words, history))
            self.assertEqual(sorted(cell for row in cells for cell in row), list(range(size)))
            self.assertTrue(all(many >= 1 for many in paper.layers()))
            self.assertEqual([index for index, row in enumerate(cells) if not row], paper.hidden())
            strip = "." * size
            for word, place in history:
                strip = band.stamped(strip, word, place)
            self.assertEqual(strip, text)
            self.assertEqual(list(band.replay(size, history))[-1], text)
            self.assertEqual(read_stampings(write_stampings(history)), history)

    def test_what_is_seen_is_a_splitting(self):
        for kind, words, band, paper, text, chance in self.papers(25, 2):
            told = (kind, words, paper.stampings)
            parts, order = seen_parts(kind, words, paper)
            hidden = paper.hidden()
            seen = [stamping for index, stamping in enumerate(paper.stampings) if index not in hidden]
            self.assertTrue(model.is_splitting(kind, words, text, parts), told)
            self.assertIs(band.is_splitting(text, parts), True, told)
            stampings = band.stampings_of(text, parts)
            self.assertEqual([stampings[index] for index in order], seen, told)
            self.assertEqual(nth_splitting(band, text, splitting_index(band, text, parts)), parts, told)
            self.assertEqual(read_parts(write_parts(parts)), parts)
            self.assertIs(text in band, True)
            self.assertLessEqual(band.fewest(text), len(seen), told)
            again = Paper(band, len(text))
            again.press_all(*seen)
            self.assertEqual((again.shown, again.hidden()), (text, []), told)

    def test_the_order_of_the_history_is_one_of_the_orders(self):
        asked = 0
        for kind, words, band, paper, text, chance in self.papers(40, 3):
            parts, order = seen_parts(kind, words, paper)
            if len(parts) <= 24:
                asked += 1
                self.assertIs(is_order(band, text, parts, order), True)
                index = order_index(band, text, parts, order)
                self.assertTrue(0 <= index < count_orders(band, text, parts))
                self.assertEqual(nth_order(band, text, parts, index), order)
                self.assertIn(order[0], may_be_first(band, text, parts))
                self.assertIn(order[-1], may_be_last(band, text, parts))
                for one, other in always_before(band, text, parts):
                    self.assertLess(order.index(one), order.index(other))
            pairs = model.constraints(kind, words, parts)
            self.assertTrue(all(order.index(one) < order.index(other) for one, other in pairs))
        self.assertGreater(asked, 200)

    def test_a_fewest_splitting_prints_the_text(self):
        for kind, words, band, paper, text, chance in self.papers(25, 4):
            parts = band.splitting(text)
            self.assertEqual(len(parts), band.fewest(text))
            self.assertGreaterEqual(count_splittings(band, text), count_fewest(band, text))
            self.assertGreaterEqual(count_fewest(band, text), 1)
            if len(parts) <= 24:
                stampings = band.stampings_of(text, parts)
                pressed = [stampings[index] for index in nth_order(band, text, parts, 0)]
                other = Paper(band, len(text))
                other.press_all(*pressed)
                self.assertEqual((other.shown, other.hidden()), (text, []))
                self.assertEqual(list(band.replay(len(text), pressed))[-1], text)

    def test_tables_and_patterns(self):
        for kind, words, band, paper, text, chance in self.papers(25, 5):
            if kind == "ring":
                continue
            many = band.fewest(text)
            table = table_of(band, text)
            self.assertIs(shows(band, text, many, table), True)
            self.assertIs(shows(band, text, many + 1, table), False)
            pattern = "".join("?" if chance.randrange(4) == 0 else letter for letter in text)
            self.assertIs(can_fill(band, pattern), True)
            self.assertLessEqual(fewest_fill(band, pattern), many)
            self.assertLessEqual(least_fill(band, pattern), text)
            self.assertIn(least_fill(band, pattern), band)
            unreadable = [letter for letter, sign in zip(text, pattern) if sign == "?"]
            letters = possible_letters(band, pattern)
            self.assertEqual(len(letters), len(unreadable))
            self.assertTrue(all(letter in some for letter, some in zip(unreadable, letters)))
            self.assertEqual(fewest_fill(band, text), many)

    def test_changes(self):
        for kind, words, band, paper, text, chance in self.papers(25, 6):
            size = len(text)
            old = overs.drawn_strip(words, size, chance)
            other = overs.printed_over(kind, words, "." * size, 5, chance)[1]
            for strip in (old, other, paper.shown):
                stampings = change(band, strip, text)
                self.assertEqual(overs.pressed_on(kind, strip, words, stampings), text)
                self.assertEqual(len(stampings), fewest_change(band, strip, text))
                self.assertLessEqual(len(stampings), band.fewest(text))
            # What follows on a paper is pressed over what it shows.
            far = chance.randint(0, len(paper))
            strips = list(band.replay(size, paper.stampings))
            if "." not in strips[far]:
                self.assertLessEqual(fewest_change(band, strips[far], text), len(paper) - far)
            twin = paper.twin()
            twin.press_all(*change(band, text, other))
            self.assertEqual((twin.shown, paper.shown), (other, text))


class Shortest(unittest.TestCase):
    def shortest(self, kind, size, words):
        """For each strip the least number of stampings, and the number of the histories with so many."""
        least = {"." * size: (0, 1)}
        front = dict(least)
        every = model.stampings(kind, size, words)
        while front:
            behind = {}
            for strip, (many, ways) in front.items():
                for word, place in every:
                    after = model.pressed(kind, strip, words, word, place)
                    if after not in least:
                        behind[after] = (many + 1, behind.get(after, (0, 0))[1] + ways)
            least.update(behind)
            front = behind
        return least

    def check(self, kind, size, words):
        band = Band.named(kind, Stamps(*words))
        least = self.shortest(kind, size, words)
        for text in map("".join, product("ab", repeat=size)):
            told = (kind, words, text)
            many, ways = least.get(text, (None, 0))
            self.assertEqual(band.fewest(text), many, told)
            rows = [parts for parts in splittings(band, text) if len(parts) == many]
            self.assertEqual(count_fewest(band, text), len(rows), told)
            self.assertEqual(sum(count_orders(band, text, parts) for parts in rows), ways, told)

    def check_all(self, kind):
        for width in (1, 2, 3):
            every = ["".join(letters) for letters in product("ab", repeat=width)]
            for many in range(1, min(len(every), 6) + 1):
                for words in combinations(every, many):
                    for size in range(1, 6):
                        self.check(kind, size, list(words))

    def test_lines(self):
        self.check_all("line")

    def test_windows(self):
        self.check_all("window")

    def test_rings(self):
        self.check_all("ring")


if __name__ == "__main__":
    unittest.main()
