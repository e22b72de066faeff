"""Points 2, 7 to 9 and 13 to 15: sessions."""

import random
import re
import unittest

from overstamps.bands import Band
from overstamps.codes import read_stamps
from overstamps.counting import count_splittings, nth_splitting
from overstamps.errors import StampError
from overstamps.session import session
from overstamps.stamps import Stamps
from tests import model, overs, ways
from tests.sheets import Sheet
from tests.things import drawn_stamps, most_cells

NUMBER = "(0|[1-9][0-9]{0,8})"
LINES = {
    "stamps": re.compile(r"stamps ([^ ]+(?: [^ ]+)*)"),
    "band": re.compile(r"band ([^ ]+) " + NUMBER),
    "press": re.compile("press " + NUMBER + " (0|-?[1-9][0-9]{0,8})"),
    "strip": re.compile("strip"),
    "seen": re.compile("seen " + NUMBER),
    "fewest": re.compile("fewest ([^ ]+)"),
    "orders": re.compile("orders ([^ ]+)"),
    "undo": re.compile("undo"),
    "mark": re.compile("mark"),
    "back": re.compile("back " + NUMBER),
}


class Session:
    """A session told a second way: lines are found by patterns, and a sheet stands for the paper."""

    def __init__(self):
        self.held = None
        self.sheet = None

    def answer(self, line):
        for name, pattern in LINES.items():
            found = pattern.fullmatch(line)
            if found and not (name == "band" and self.held is None) and not (
                    name not in ("stamps", "band") and self.sheet is None):
                return getattr(self, name)(*found.groups())
        return "?"

    def stamps(self, code):
        try:
            self.held = read_stamps(code)
        except StampError:
            return "InvalidCode"
        self.sheet = None
        return "ok"

    def band(self, name, size):
        if name not in model.KINDS:
            return "InvalidName"
        if not 1 <= int(size) <= most_cells(name):
            return "InvalidNumber"
        self.sheet = Sheet(name, self.held.words, int(size))
        return "ok"

    def press(self, word, place):
        sheet = self.sheet
        if not model.fits(sheet.kind, sheet.size, sheet.words, int(word), int(place)):
            return "InvalidStamping"
        sheet.press(int(word), int(place))
        return "ok"

    def strip(self):
        return self.sheet.shown()

    def seen(self, index):
        if int(index) >= len(self.sheet.stampings()):
            return "InvalidNumber"
        return " ".join(str(cell) for cell in self.sheet.seen()[int(index)]) or "-"

    def is_text(self, text):
        return re.fullmatch("[a-z]+", text) and len(text) <= most_cells(self.sheet.kind)

    def fewest(self, text):
        if not self.is_text(text):
            return "InvalidText"
        many = model.fewest(self.sheet.kind, self.sheet.words, text)
        return "none" if many is None else str(many)

    def orders(self, text):
        if not self.is_text(text):
            return "InvalidText"
        kind, words = self.sheet.kind, self.sheet.words
        band = Band.named(kind, Stamps(*words))
        if count_splittings(band, text) == 0:
            return "none"
        parts = nth_splitting(band, text, 0)
        return "InvalidParts" if len(parts) > 24 else str(ways.counted_orders(kind, words, parts))

    def undo(self):
        if not self.sheet.stampings():
            return "NothingToUndo"
        self.sheet.undo()
        return "ok"

    def mark(self):
        return str(self.sheet.mark())

    def back(self, index):
        if int(index) >= self.sheet.marks():
            return "InvalidNumber"
        self.sheet.undo_to(int(index))
        return "ok"


def answers(rows):
    told = Session()
    return "\n".join(told.answer(line) for line in rows.split("\n"))


def drawn_line(chance, words, kind, size):
    """A line that may answer anything, mostly about a paper with these words."""
    letters = "".join(words)
    name = chance.choice(["press"] * 6 + ["strip", "strip", "seen", "seen", "fewest", "orders", "undo", "mark", "back"])
    if name == "press":
        word, place = chance.choice(model.stampings(kind, size, words) or [(0, 0)])
        if chance.randrange(5) == 0:
            word, place = chance.randint(0, 6), chance.randint(-9, 130)
        return f"press {word} {place}"
    if name in ("seen", "back"):
        return f"{name} {chance.choice([0, 0, 1, 2, 3, 5, 8, 999999999])}"
    if name in ("fewest", "orders"):
        text = overs.printed_over(kind, words, "." * max(size, len(words[0])), 3, chance)[1]
        other = "".join(chance.choice(letters) for _ in range(chance.randint(1, 9)))
        return f"{name} {chance.choice([text, text, text[:9], other, other + '.', other.upper(), '.', '-', '?', text * 9])}"
    return name


def drawn_rows(seed, many):
    """The lines of a session with several stamps and bands one behind another."""
    chance = random.Random(seed)
    lines = []
    words, kind, size = ["ab"], "line", 5
    while len(lines) < many:
        if len(lines) < 2 or chance.randrange(25) == 0:
            words = drawn_stamps(chance)
            lines.append("stamps " + " ".join(words + words[:chance.choice([0, 0, 0, 0, 0, 1])]))
        if len(lines) < 3 or chance.randrange(12) == 0:
            kind = chance.choice(model.KINDS)
            size = chance.choice([len(words[0]), len(words[0]) + 3, chance.randint(1, most_cells(kind))])
            lines.append(f"band {chance.choice([kind] * 6 + ['rings', 'Line'])} {chance.choice([size] * 6 + [0, 121])}")
        lines.append(drawn_line(chance, words, kind, size))
    return lines[:many]


class Drawn(unittest.TestCase):
    def check(self, rows):
        found, wanted = session(rows), answers(rows)
        for line, one, other in zip(rows.split("\n"), found.split("\n"), wanted.split("\n")):
            self.assertEqual(one, other, (line, rows))
        self.assertEqual(found, wanted)
        return found.split("\n")

    def test_sessions(self):
        met = set()
        for seed in range(60):
            lines = drawn_rows(seed, 40 + seed)
            found = self.check("\n".join(lines))
            self.assertEqual(len(found), len(lines))
            met.update(found)
        self.assertLessEqual({
            "ok", "?", "-", "none", "InvalidCode", "InvalidName", "InvalidNumber", "InvalidStamping", "InvalidText",
            "InvalidParts", "NothingToUndo",
        }, met)

    def test_two_hundred_lines(self):
        for seed in range(100, 112):
            self.assertEqual(len(self.check("\n".join(drawn_rows(seed, 200)))), 200)

    def test_two_hundred_presses(self):
        for kind in model.KINDS:
            lines = ["stamps ab cd", f"band {kind} 9"] + [f"press {at % 2} {at * 5 % 8}" for at in range(195)]
            lines = lines + ["strip", "seen 194", "seen 0"]
            self.check("\n".join(lines))

    def test_lines_changed_a_little(self):
        chance = random.Random(7)
        signs = " 0123456789-+_.,@abmz\n?"
        for seed in range(40):
            lines = drawn_rows(seed, 40)
            for at in chance.sample(range(3, 40), 20):
                line = lines[at]
                where = chance.randrange(len(line) + 1)
                lines[at] = chance.choice([
                    line[:where] + chance.choice(signs) + line[where:], line[:where] + line[where + 1:], line + " ",
                    " " + line, line.replace(" ", "  ", 1), line + " 0", line.replace(" ", " 0", 1), line.upper(), "",
                    line.replace(" ", " +"), line.replace(" ", " -"), line.split(" ")[0],
                ])
            self.check("\n".join(lines))

    def test_equal_sessions_have_equal_answers(self):
        rows = "\n".join(drawn_rows(5, 60))
        self.assertEqual(session(rows), session(rows=rows))


if __name__ == "__main__":
    unittest.main()
