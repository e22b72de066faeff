"""Points 2 and 15: the lines of sessions, one by one."""

import unittest

from overstamps.session import session
from tests import model

START = ["stamps abc xyz", "band line 5", "press 0 0", "mark"]


def told(*lines):
    """The answers to lines, as a list."""
    return session("\n".join(lines)).split("\n")


def behind(*lines):
    """The answers to lines behind a beginning."""
    return told(*START, *lines)[len(START):]


class Answers(unittest.TestCase):
    def test_a_whole_session(self):
        lines = [
            ("stamps abc xyz", "ok"), ("band line 5", "ok"), ("strip", "....."), ("mark", "0"), ("press 0 0", "ok"),
            ("mark", "1"), ("press 1 2", "ok"), ("strip", "abxyz"), ("seen 0", "0 1"), ("seen 1", "2 3 4"),
            ("fewest abxyz", "2"), ("fewest abxy", "none"), ("orders abxyz", "1"), ("orders abxy", "none"),
            ("press 1 0", "ok"), ("seen 0", "-"), ("undo", "ok"), ("strip", "abxyz"), ("back 1", "ok"),
            ("strip", "abc.."), ("back 0", "ok"), ("strip", "....."), ("undo", "NothingToUndo"), ("mark", "1"),
            ("back 2", "InvalidNumber"), ("press 0 3", "InvalidStamping"), ("press 2 0", "InvalidStamping"),
            ("seen 0", "InvalidNumber"), ("fewest ABC", "InvalidText"), ("orders .", "InvalidText"),
            ("band window 3", "ok"), ("press 0 -2", "ok"), ("press 1 2", "ok"), ("strip", "c.x"), ("seen 0", "0"),
            ("band ring 4", "ok"), ("press 0 3", "ok"), ("strip", "bc.a"), ("seen 0", "0 1 3"),
            ("press 1 0", "ok"), ("strip", "xyza"), ("seen 0", "3"), ("stamps a", "ok"), ("strip", "?"),
            ("band ring 1", "ok"), ("press 0 0", "ok"), ("strip", "a"),
        ]
        self.assertEqual(told(*[line for line, _ in lines]), [answer for _, answer in lines])

    def test_one_line(self):
        self.assertEqual(session(""), "?")
        self.assertEqual(session("\n"), "?\n?")
        self.assertEqual(session("\n\n\n"), "?\n?\n?\n?")
        self.assertEqual(session("stamps abc"), "ok")
        self.assertEqual(session("stamps abc\n"), "ok\n?")
        self.assertEqual(session(rows="stamps abc\nband line 3\nstrip"), "ok\nok\n...")

    def test_before_stamps_and_bands(self):
        others = ["strip", "press 0 0", "seen 0", "fewest abc", "orders abc", "undo", "mark", "back 0"]
        for line in others + ["band line 5", "band foo 5", "band line 0", "stamps", "other", ""]:
            self.assertEqual(told(line), ["?"], line)
        for line in others:
            self.assertEqual(told("stamps abc", line), ["ok", "?"], line)
            self.assertEqual(told("stamps abc", "band foo 5", line), ["ok", "InvalidName", "?"], line)
            self.assertEqual(told("stamps abc", "band ring 61", line), ["ok", "InvalidNumber", "?"], line)
            self.assertEqual(told("stamps ABC", "band line 5", line), ["InvalidCode", "?", "?"], line)
            self.assertEqual(told("stamps abc", "band line 5", "stamps xyz", line)[3], "?", line)

    def test_two_hundred_lines(self):
        self.assertEqual(session("\n" * 199).split("\n"), ["?"] * 200)
        found = told("stamps ab", "band line 3", *["mark"] * 198)
        self.assertEqual(found, ["ok", "ok"] + [str(number) for number in range(198)])

    def test_numbers_that_are_answered(self):
        # On a ring of whole parts each part may be pressed at any time.
        self.assertEqual(told("stamps a", "band ring 20", "orders " + "a" * 20)[2], "2432902008176640000")
        self.assertEqual(told("stamps a", "band line 60", "orders " + "a" * 25)[2], "InvalidParts")
        self.assertEqual(told("stamps a", "band line 60", "orders " + "a" * 24)[2], "620448401733239439360000")
        self.assertEqual(told("stamps ab", "band line 9", "fewest " + "ab" * 60)[2], "60")

    def test_texts_of_another_size_than_the_paper(self):
        self.assertEqual(behind("fewest abcabcabc", "orders abcabcabc", "fewest abc", "orders xyz"), ["3", "6", "1", "1"])
        self.assertEqual(told("stamps a", "band ring 5", "fewest " + "a" * 61)[2], "InvalidText")
        self.assertEqual(told("stamps a", "band window 5", "fewest " + "a" * 121)[2], "InvalidText")


class Invalid(unittest.TestCase):
    def check(self, *lines, answer="?"):
        """Check that each of these lines answers so and changes nothing."""
        for line in lines:
            found = behind(line, "strip", "mark", "back 0", "press 1 2", "strip", "undo", "undo", "undo")
            self.assertEqual(found, [answer, "abc..", "1", "ok", "ok", "abxyz", "ok", "ok", "NothingToUndo"], line)

    def test_unknown_commands(self):
        self.check("", "x", "Strip", "STRIP", "strips", "stri", "press_all", "hidden", "layers", "twin", "len", "redo", "-")
        self.check("?", "ok", "none", "undo_to 0", "undo_to", "stamp abc", "bands line 5", "0", "press,0,0", "strip.")

    def test_missing_and_extra_words(self):
        self.check("stamps", "band", "band line", "band 5", "band line 5 5", "press", "press 0", "press 0 0 0", "seen")
        self.check("seen 0 0", "fewest", "fewest abc xyz", "orders", "orders abc xyz", "strip 0", "undo 0", "undo 1")
        self.check("mark 0", "back", "back 0 0", "strip strip")

    def test_numbers(self):
        wrong = ["-0", "00", "01", "+0", "+1", "1_0", "1_000", "0x1", "1.", "1.0", "1e1", "a", "-", "--1", "1-", "O", "(0)"]
        wrong = wrong + ["1234567890", "0000000000", "9999999999", "1" * 60, "9" * 3000]
        for number in wrong + ["-1", "-5", "-999999999"]:
            self.check(f"band line {number}", f"press {number} 0", f"seen {number}", f"back {number}")
            self.check(f"band foo {number}")
        for number in wrong + ["-00", "-01", "-+1", "-1_0", "-1234567890", "+-1"]:
            self.check(f"press 0 {number}")
        self.check("seen -1", "back -1", "press -1 0", "press -1 -1", "press 0 -0")

    def test_the_longest_numbers(self):
        self.check("press 999999999 0", "press 0 999999999", "press 0 -999999999", answer="InvalidStamping")
        self.check("seen 999999999", "back 999999999", "seen 1", "back 1", answer="InvalidNumber")
        self.check("band line 999999999", "band line 0", "band line 121", "band ring 61", answer="InvalidNumber")

    def test_blanks(self):
        for line in ("stamps abc", "band line 5", "press 1 2", "strip", "seen 0", "fewest abc", "orders abc", "undo",
                     "mark", "back 0"):
            self.check(line + " ", " " + line, line + "  ", "  " + line)
            if " " in line:
                self.check(line.replace(" ", "  ", 1), line.replace(" ", "  "))
        self.check(" ", "  ", "   ", "stamps ", "stamps  ", "stamps abc  xyz", "stamps abc xyz ", "band  line 5")
        self.check("fewest ", "orders ", "fewest  abc", "seen ", "back ", "press 0 ", "press  0")

    def test_names(self):
        self.check("band foo 5", "band Line 5", "band LINE 5", "band rings 5", "band band 5", "band 5 5", "band - 5",
                   answer="InvalidName")
        self.check("band foo 0", "band foo 999999999", "band ? 121", answer="InvalidName")

    def test_codes(self):
        self.check("stamps ABC", "stamps abc ab", "stamps abc abc", "stamps -", "stamps 0@0", "stamps abcdefghi",
                   "stamps a b c d e f g", "stamps abc.", "stamps abc ?", "stamps abc xyz 0", "stamps stamps stamps",
                   answer="InvalidCode")

    def test_texts(self):
        self.check("fewest ABC", "fewest .", "fewest ab.", "fewest 0", "fewest -", "fewest ?", "fewest " + "a" * 121,
                   "orders ABC", "orders .", "orders 0", "orders " + "a" * 121, "fewest stampS", answer="InvalidText")
        self.check("fewest z", "fewest ab", "orders ab", "orders strip", answer="none")
        self.check("fewest abc", "orders abc", "orders xyz", answer="1")

    def test_stampings(self):
        self.check("press 2 0", "press 0 3", "press 0 -1", "press 1 5", "press 5 0", answer="InvalidStamping")

    def test_a_stamps_line_that_answers_ok_removes_the_band(self):
        found = behind("stamps ab", "strip", "mark", "undo", "back 0", "fewest ab", "band line 4", "strip", "mark")
        self.assertEqual(found, ["ok", "?", "?", "?", "?", "?", "ok", "....", "0"])
        found = behind("stamps abc xyz", "strip", "band line 5", "strip", "undo")
        self.assertEqual(found, ["ok", "?", "ok", ".....", "NothingToUndo"])

    def test_a_stamps_line_that_cannot_be_read_keeps_the_stamps(self):
        found = behind("stamps abc ab", "press 1 2", "strip", "band line 6", "press 1 0", "strip")
        self.assertEqual(found, ["InvalidCode", "ok", "abxyz", "ok", "ok", "xyz..."])

    def test_a_band_line_makes_a_new_paper(self):
        found = behind("band line 5", "strip", "undo", "back 0", "mark", "band line 0", "band x 1", "mark", "strip")
        self.assertEqual(found, [
            "ok", ".....", "NothingToUndo", "InvalidNumber", "0", "InvalidNumber", "InvalidName", "1", ".....",
        ])

    def test_a_band_line_with_an_error_keeps_the_band(self):
        for line in ("band line 121", "band ring 61", "band foo 3", "band ring 0"):
            found = told("stamps abc", "band window 2", "press 0 -2", line, "strip", "press 0 -1", "strip", "fewest b")
            self.assertEqual(found[4:], ["c.", "ok", "bc", "1"])

    def test_rings_of_fewer_cells_than_a_word(self):
        found = told("stamps abc", "band ring 2", "press 0 0", "strip", "seen 0", "undo", "mark", "fewest ab", "orders ab")
        self.assertEqual(found[1:], [
            "ok", "InvalidStamping", "..", "InvalidNumber", "NothingToUndo", "0", "none", "none",
        ])

    def test_the_largest_sizes(self):
        for kind in model.KINDS:
            most = 60 if kind == "ring" else 120
            found = told("stamps a", f"band {kind} {most}", f"press 0 {most - 1}", "strip", f"band {kind} {most + 1}")
            self.assertEqual(found, ["ok", "ok", "ok", "." * (most - 1) + "a", "InvalidNumber"])


if __name__ == "__main__":
    unittest.main()
