"""Points 2, 3, 4, 5 and 10: tables, and what they show."""

import copy
import inspect
import random
import unittest

from overstamps import tables
from overstamps.bands import Band
from overstamps.errors import InvalidText
from overstamps.stamps import Stamps
from overstamps.tables import shows, table_of
from tests import ways
from tests.things import BIG, bad_texts, drawn_stamps, filled_by_history, filled_sparsely, long_stamps, odd_things, raised

KINDS = ("line", "window")
WORDS = [["a"], ["b", "a"], ["ab"], ["aa"], ["ab", "ba"], ["aab", "bab"], ["abb", "baa", "aba"], ["abba", "aaaa"]]


def short_texts(seed, rounds):
    chance = random.Random(seed)
    for _ in range(rounds):
        words = chance.choice(WORDS)
        text = "".join(chance.choice("ab") for _ in range(chance.randint(1, 7)))
        if chance.random() < 0.1:
            text = text[:-1] + "z"
        for kind in KINDS:
            yield kind, words, text


def long_texts(seed, rounds):
    chance = random.Random(seed)
    for words in long_stamps() + [drawn_stamps(chance) for _ in range(rounds)] + [["aaaaaaaa", "aaaabaaa"]]:
        for kind in KINDS:
            fill = chance.choice([filled_by_history, filled_sparsely])
            text = fill(kind, chance.choice([120, 119, chance.randint(8, 120)]), words, chance.randint(0, 1000))[1]
            yield kind, words, text
            at = chance.randrange(len(text))
            yield kind, words, text[:at] + chance.choice("".join(words) + "z") + text[at + 1:]


class Tables(unittest.TestCase):
    def test_short_texts_against_all_lists(self):
        for kind, words, text in short_texts(1, 300):
            band = Band.named(kind, Stamps(*words))
            wanted = ways.table_by_lists(kind, words, text)
            self.assertEqual(table_of(band, text), wanted, (kind, words, text))
            self.assertEqual(ways.table_by_rounds(kind, words, text), wanted)

    def test_long_texts_against_a_second_way(self):
        for kind, words, text in long_texts(2, 12):
            band = Band.named(kind, Stamps(*words))
            self.assertEqual(table_of(band, text), ways.table_by_rounds(kind, words, text), (kind, words, text))

    def test_tables_in_words(self):
        line, window = (Band.named(kind, Stamps("ab", "ba")) for kind in KINDS)
        self.assertEqual(table_of(line, "a"), [[(0, 0, 1)]])
        self.assertEqual(table_of(window, "a"), [[(0, 0, 1), (1, 1, 1)]])
        self.assertEqual(table_of(line, "abb"), [[(0, 0, 1)], [(0, 1, 1), (1, 0, 2)], [(0, 1, 2), (1, 0, 2)]])
        self.assertEqual(table_of(line, "zab"), [[], [], []])
        self.assertEqual(table_of(line, "aza"), [[(0, 0, 1)], [], []])
        self.assertEqual(table_of(window, "ab")[1], [(0, 1, 1), (1, 0, 2)])

    def test_cells_without_entries(self):
        for kind in KINDS:
            band = Band.named(kind, Stamps("abc"))
            self.assertEqual(table_of(band, "zzz"), [[], [], []])
            table = table_of(band, "abczabc")
            self.assertEqual([len(row) > 0 for row in table], [True] * 3 + [False] * 4)
            for number in (-BIG, 0, 1, 7, BIG):
                self.assertIs(shows(band, "abczabc", number, table), True)
        self.assertEqual(table_of(Band.named("line", Stamps("abc")), "bc"), [[], []])
        self.assertEqual(table_of(Band.named("window", Stamps("abc")), "bc"), [[(0, 1, 1)], [(0, 2, 1)]])

    def test_new_lists(self):
        for kind, words, text in long_texts(3, 1):
            band = Band.named(kind, Stamps(*words))
            table = table_of(band, text)
            kept = copy.deepcopy(table)
            self.assertEqual(len({id(row) for row in table}), len(table))
            for row in table:
                row.append("more")
            table.clear()
            self.assertEqual(table_of(band, text), kept)
            self.assertEqual(table_of(Band.named(kind, Stamps(*words)), text), kept)

    def test_beginnings(self):
        for kind, words, text in long_texts(4, 3):
            band = Band.named(kind, Stamps(*words))
            table = table_of(band, text)
            self.assertEqual(len(table), len(text))
            for many in (1, 2, len(text) // 2, len(text) - 1):
                self.assertEqual(table_of(band, text[:many]), table[:many])

    def test_the_least_bound_at_the_end(self):
        for texts in (short_texts(5, 150), long_texts(6, 6)):
            for kind, words, text in texts:
                band = Band.named(kind, Stamps(*words))
                last = table_of(band, text)[-1]
                bounds = [bound for _, offset, bound in last if kind == "window" or offset + 1 == len(words[0])]
                self.assertEqual(min(bounds, default=None), band.fewest(text), (kind, words, text))

    def test_the_table_shows_the_least_number(self):
        for texts in (short_texts(7, 150), long_texts(8, 6)):
            for kind, words, text in texts:
                band = Band.named(kind, Stamps(*words))
                table = table_of(band, text)
                many = band.fewest(text)
                if many is None:
                    self.assertIs(shows(band, text, BIG, table), True)
                else:
                    for number, wanted in ((many - 1, True), (many, True), (many + 1, False), (BIG, False), (-BIG, True)):
                        self.assertIs(shows(band, text, number, table), wanted)


def changed_tables(table, words, chance):
    """Tables with bounds changed, entries left out, put in, exchanged or there twice, rows too many or too few."""
    width = len(words[0])
    for _ in range(12):
        at = chance.randrange(len(table))
        row = table[at]
        if row:
            index = chance.randrange(len(row))
            word, offset, bound = row[index]
            for other in (bound - 1, bound + 1, 0, -1, -BIG, BIG, chance.randint(-2, 9)):
                yield table[:at] + [row[:index] + [(word, offset, other)] + row[index + 1:]] + table[at + 1:]
                twice = row[:index + 1] + [(word, offset, bound + abs(other))] + row[index + 1:]
                yield table[:at] + [twice] + table[at + 1:]
                yield table[:at] + [sorted(row + [(word, offset, other)])] + table[at + 1:]
            yield table[:at] + [row[:index] + row[index + 1:]] + table[at + 1:]
            yield table[:at] + [row[:index] + [row[index]] + row[index:]] + table[at + 1:]
            yield table[:at] + [row[::-1]] + table[at + 1:]
            yield table[:at] + [[]] + table[at + 1:]
        entry = (chance.randint(-1, len(words)), chance.randint(-1, width), chance.randint(-1, 5))
        yield table[:at] + [sorted(row + [entry])] + table[at + 1:]
        yield table[:at] + [row + [entry]] + table[at + 1:]
        yield table[:at] + table[at + 1:]
        yield table[:at] + [row] + table[at:]
        other = chance.randrange(len(table))
        exchanged = list(table)
        exchanged[at], exchanged[other] = exchanged[other], exchanged[at]
        yield exchanged
    for less in (1, 2, 1000, BIG):
        yield [[(word, offset, bound - less) for word, offset, bound in row] for row in table]
        yield [[(word, offset, bound + less) for word, offset, bound in row] for row in table]
    for at in range(len(table)):
        yield [
            [(word, offset, bound - 1) for word, offset, bound in row] if place >= at else row
            for place, row in enumerate(table)
        ]
        yield [
            [(word, offset, bound - 1) for word, offset, bound in row] if place <= at else row
            for place, row in enumerate(table)
        ]
    yield table + [[]]
    yield table[:-1]
    yield []


class Shown(unittest.TestCase):
    def test_changed_tables(self):
        chance = random.Random(11)
        shown = set()
        for kind, words, text in short_texts(12, 60):
            band = Band.named(kind, Stamps(*words))
            table = table_of(band, text)
            many = band.fewest(text) or 1
            for thing in changed_tables(table, words, chance):
                before = copy.deepcopy(thing)
                for number in (many - 1, many, many + 1, chance.choice([0, -1, BIG, -BIG])):
                    wanted = ways.table_shows(kind, words, text, number, thing)
                    self.assertIs(shows(band, text, number, thing), wanted, (kind, words, text, number, thing))
                    shown.add(wanted)
                self.assertEqual(thing, before)
        self.assertEqual(shown, {True, False})

    def test_long_tables(self):
        chance = random.Random(13)
        for kind, words, text in long_texts(14, 2):
            if len(text) > 60:
                text = text[:60]
            band = Band.named(kind, Stamps(*words))
            many = band.fewest(text) or 1
            for thing in list(changed_tables(table_of(band, text), words, chance))[::12]:
                wanted = ways.table_shows(kind, words, text, many, thing)
                self.assertIs(shows(band, text, many, thing), wanted, (kind, words, text, many))

    def test_drawn_tables_that_are_certificates(self):
        # Entries that no list of parts reaches can be there, too, if all rules hold for them.
        chance = random.Random(15)
        found = set()
        for kind, words, text in short_texts(16, 300):
            band = Band.named(kind, Stamps(*words))
            table = []
            for letter in text:
                table.append([
                    (word, offset, chance.choice([-3, 0, 1, 1, 2]))
                    for word in range(len(words)) for offset in range(len(words[0]))
                    if words[word][offset] == letter and chance.random() < 0.9
                ])
            for number in (-4, 0, 1, 2, 3):
                wanted = ways.table_shows(kind, words, text, number, table)
                self.assertIs(shows(band, text, number, table), wanted, (kind, words, text, number, table))
                found.add((wanted, number))
        self.assertTrue({(True, 0), (False, 1), (True, 1), (False, 0)} <= found)

    def test_rules_in_words(self):
        line = Band.named("line", Stamps("ab", "ba"))
        self.assertIs(shows(line, "ab", 1, [[(0, 0, 1)], [(0, 1, 1), (1, 0, 2)]]), True)
        self.assertIs(shows(line, "ab", 2, [[(0, 0, 1)], [(0, 1, 1), (1, 0, 2)]]), False)
        # The first cell: each entry, with a bound of at most 1.
        self.assertIs(shows(line, "ab", 0, [[], [(0, 1, 1), (1, 0, 2)]]), False)
        self.assertIs(shows(line, "ab", 0, [[(0, 0, 2)], [(0, 1, 1), (1, 0, 2)]]), False)
        self.assertIs(shows(line, "ab", 0, [[(0, 0, -5)], [(0, 1, -5), (1, 0, -4)]]), False)
        self.assertIs(shows(line, "ab", -5, [[(0, 0, -5)], [(0, 1, -5), (1, 0, -4)]]), True)
        # The part goes on, or a seam follows.
        self.assertIs(shows(line, "ab", 1, [[(0, 0, 1)], [(1, 0, 2)]]), False)
        self.assertIs(shows(line, "ab", 1, [[(0, 0, 1)], [(0, 1, 2), (1, 0, 2)]]), False)
        self.assertIs(shows(line, "ab", 1, [[(0, 0, 1)], [(0, 1, 1)]]), False)
        self.assertIs(shows(line, "ab", 1, [[(0, 0, 1)], [(0, 1, 1), (1, 0, 3)]]), False)
        # The last cell: on a line only words that end there count, on a window all.
        window = Band.named("window", Stamps("ab", "ba"))
        table = [[(0, 0, 1), (1, 1, 1)], [(0, 1, 1), (1, 0, 0)]]
        self.assertIs(shows(window, "ab", 0, table), True)
        self.assertIs(shows(window, "ab", 1, table), False)
        self.assertIs(shows(line, "ab", 1, table), True)
        self.assertIs(shows(line, "ab", 2, table), False)
        self.assertIs(shows(line, "ab", 1, [[(0, 0, 1)], [(0, 1, 1), (1, 0, 0)]]), True)
        # No word and offset twice at a cell.
        self.assertIs(shows(line, "ab", 1, [[(0, 0, 1)], [(0, 1, 1), (0, 1, 2), (1, 0, 2)]]), False)
        self.assertIs(shows(line, "ab", 1, [[(0, 0, 0), (0, 0, 1)], [(0, 1, 0), (1, 0, 1)]]), False)

    def test_numbers(self):
        line = Band.named("line", Stamps("aaa", "baa"))
        table = table_of(line, "aaaabaa")
        many = line.fewest("aaaabaa")
        for number in (many + 1, 10 ** 59, BIG):
            self.assertIs(shows(line, "aaaabaa", number, table), False)
        for number in (many, 1, 0, -1, -10 ** 59, -BIG):
            self.assertIs(shows(line, "aaaabaa", number, table), True)
        big = [[(word, offset, bound + BIG) for word, offset, bound in row] for row in table]
        self.assertIs(shows(line, "aaaabaa", BIG, big), False)
        none = table_of(line, "aaaabaz")
        for number in (BIG, 1, 0, -BIG):
            self.assertIs(shows(line, "aaaabaz", number, none), True)


class AnyObject(unittest.TestCase):
    def cases(self):
        for kind in KINDS:
            band = Band.named(kind, Stamps("ab", "ba"))
            for text in ("abba", "a", "ba"):
                yield band, text, table_of(band, text)

    def test_other_objects(self):
        for band, text, table in self.cases():
            others = [tuple(table), [tuple(row) for row in table], [table], {"table": table}, str(table), text, band, table[0]]
            others += [[[list(entry) for entry in row] for row in table], [str(row) for row in table], [[]] * 2999]
            others += [[{} for row in table], [None for row in table], [0 for row in table], [(row,) for row in table]]
            others += [[[row] for row in table], table * 2, table[1:], table + [[]], [[]] + table, []]
            for thing in odd_things() + others:
                for number in (-BIG, 0, 1):
                    self.assertIs(shows(band, text, number, thing), False, (text, thing))

    def test_other_entries(self):
        for band, text, table in self.cases():
            for at, row in enumerate(table):
                for index, entry in enumerate(row):
                    things = [list(entry), entry[:2], entry + (0,), (entry,), (), None, True, 0, "abc", {}, str(entry)]
                    for spot in range(3):
                        for worth in (None, str(entry[spot]), [entry[spot]], (entry[spot],), {}, band):
                            things.append(entry[:spot] + (worth,) + entry[spot + 1:])
                    for thing in things:
                        rows = table[:at] + [row[:index] + [thing] + row[index + 1:]] + table[at + 1:]
                        self.assertIs(shows(band, text, -BIG, rows), False, rows)

    def test_booleans_are_no_integers(self):
        for kind in KINDS:
            band = Band.named(kind, Stamps("b", "a"))
            self.assertIs(shows(band, "a", 1, [[(1, 0, 1)]]), True)
            for entry in ((True, 0, 1), (1, False, 1), (1, 0, True), (1, 0, False)):
                self.assertIs(shows(band, "a", 0, [[entry]]), False)
            self.assertIs(shows(band, "b", 0, [[(False, 0, 1)]]), False)

    def test_letters_that_do_not_agree(self):
        line = Band.named("line", Stamps("ab", "ba"))
        table = table_of(line, "abba")
        for at in range(4):
            for word in range(-2, 4):
                for offset in range(-2, 4):
                    entry = (word, offset, 0)
                    rows = table[:at] + [sorted([row for row in table[at] if row[:2] != entry[:2]] + [entry])]
                    rows += table[at + 1:]
                    wanted = ways.table_shows("line", ["ab", "ba"], "abba", 0, rows)
                    self.assertIs(shows(line, "abba", 0, rows), wanted)


class Errors(unittest.TestCase):
    def test_texts(self):
        for kind in KINDS:
            band = Band.named(kind, Stamps("ab", "ba"))
            table = table_of(band, "abba")
            for wrong in bad_texts(kind):
                raised(self, InvalidText, table_of, band, wrong)
                for number in (1, BIG, -BIG):
                    for thing in (table, None, [], "ab"):
                        raised(self, InvalidText, shows, band, wrong, number, thing)
            raised(self, InvalidText, shows, thing=table, number=1, text="", band=band)

    def test_arguments_do_not_change(self):
        for kind in KINDS:
            band = Band.named(kind, Stamps("ab", "ba"))
            for thing in (table_of(band, "abba"), [[(1, 1, 1), (0, 0, 1)]] * 4, [[], [], [], []]):
                before = copy.deepcopy(thing)
                shows(band, "abba", 1, thing)
                self.assertEqual(thing, before)

    def test_by_position_and_by_name(self):
        for kind in KINDS:
            band = Band.named(kind, Stamps("ab", "ba"))
            table = table_of(text="abba", band=band)
            self.assertEqual(table, table_of(band, "abba"))
            self.assertIs(shows(thing=table, number=1, text="abba", band=band), True)
            self.assertIs(shows(band, "abba", thing=table, number=99), False)

    def test_names_and_arguments(self):
        for name, names in (("table_of", ["band", "text"]), ("shows", ["band", "text", "number", "thing"])):
            function = getattr(tables, name)
            self.assertEqual(function.__module__, "overstamps.tables")
            self.assertEqual(list(inspect.signature(function).parameters), names)

    def test_kinds_of_results(self):
        for kind in KINDS:
            table = table_of(Band.named(kind, Stamps("ab", "ba")), "abba")
            for row in table:
                self.assertIs(type(row), list)
                for entry in row:
                    self.assertIs(type(entry), tuple)
                    self.assertEqual([type(number) for number in entry], [int] * 3)


if __name__ == "__main__":
    unittest.main()
