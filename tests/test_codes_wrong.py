"""Points 2, 5 and 14: strings that are no codes, and the number of the first word that cannot stand there."""

import random
import re
import unittest

from overstamps.codes import read_parts, read_stampings, read_stamps, write_parts, write_stampings, write_stamps
from overstamps.errors import InvalidCode, StampError
from overstamps.stamps import Stamps
from tests.test_codes import drawn_parts, drawn_stampings
from tests.things import drawn_stamps, long_stamps, raised

STAMPING = re.compile(r"[0-5]@(0|-[1-7]|[1-9]|[1-9][0-9]|1[01][0-9])")
PART = re.compile(r"(0|[1-9]|[1-9][0-9]|1[01][0-9]):([0-5])\+([0-7])\*([1-8])")
STAMP = re.compile(r"[a-z]{1,8}")


def stamps_can_go_on(before, word):
    if not STAMP.fullmatch(word) or word in before or len(before) == 6:
        return False
    if before and len(word) != len(before[0]):
        return False
    return len(word) * (len(before) + 1) <= 36


def stampings_can_go_on(before, word):
    if before and before[0] == "-":
        return False
    if word == "-":
        return not before
    return STAMPING.fullmatch(word) is not None and len(before) < 200


def parts_can_go_on(before, word):
    found = PART.fullmatch(word)
    if not found or int(found[3]) + int(found[4]) > 8 or len(before) == 120:
        return False
    return not before or int(PART.fullmatch(before[-1])[1]) < int(found[1])


def first_wrong(can_go_on, code):
    """The number of the first word that cannot stand behind the ones before it, or None."""
    words = code.split(" ")
    for at, word in enumerate(words):
        if not can_go_on(words[:at], word):
            return at
    return None


CODES = [
    (read_stamps, write_stamps, stamps_can_go_on), (read_stampings, write_stampings, stampings_can_go_on),
    (read_parts, write_parts, parts_can_go_on),
]


def drawn_codes(seed, rounds):
    """Codes of each kind with what reads and writes them, what tells which word can go on, and a source of draws."""
    chance = random.Random(seed)
    for _ in range(rounds):
        many = chance.choice([1, 2, 3, 6, 40])
        yield CODES[0] + (write_stamps(Stamps(*drawn_stamps(chance))), chance)
        yield CODES[1] + (write_stampings(drawn_stampings(chance, many - 1)), chance)
        yield CODES[2] + (write_parts(drawn_parts(chance, many)), chance)


WORDS = [
    "", "-", "--", "0", "a", "ab", "abc", "A", "aB", "abcdefghi", "0@0", "5@119", "0@-7", "0@-8", "0@120", "6@0", "-1@0",
    "00@0", "0@00", "0@07", "0@-0", "0@-07", "0@+1", "+0@0", "0@1_0", "0_0@1", "0@", "@0", "@", "0@0@0", "0@ 0", "0@1e1",
    "0@0x1", "0@1.0", "0@--1", "0@1-", "10@0", "0@1000", "0@" + "9" * 60, "0" * 60 + "@0", "9" * 4000, "0@" + "9" * 3990,
    "0:0+0*1", "0:0+0*8", "119:5+7*1", "120:0+0*1", "-1:0+0*1", "0:6+0*1", "0:0+8*1", "0:0+0*0", "0:0+0*9", "0:0+7*2",
    "0:0+1*8", "00:0+0*1", "0:00+0*1", "0:0+00*1", "0:0+0*01", "-0:0+0*1", "0:-0+0*1", "0:0+-0*1", "+0:0+0*1",
    "0:0++0*1", "0:0+0*+1", "1_0:0+0*1", "0:0+0", "0:0*1", "0+0*1", "0:0+0*1*1", "0:0+0+0*1", "0:0:0+0*1", "0:0+0*",
    ":0+0*1", "0:+0*1", "0:0+*1", "0:0*0+1", "0+0:0*1", "0*0:0+1", "1000:0+0*1", "0:0+0*10", "0:0+10*1", "0:10+0*1",
    "9" * 60 + ":0+0*1", "0:0+0*" + "9" * 60, "(0,0)", "0,0", "0@0,", "none", "?", "0:0+0*1\n", "0@0\n", "ab\n", "\n",
]


class Wrong(unittest.TestCase):
    def check(self, read, can_go_on, code):
        """Check a string that may be a code; return whether it is one."""
        at = first_wrong(can_go_on, code)
        if at is None:
            read(code)
            return True
        error = raised(self, InvalidCode, read, code)
        self.assertEqual(error.at, at, code)
        self.assertIs(type(error.at), int)
        return False

    def test_single_words(self):
        for read, _, can_go_on in CODES:
            for word in WORDS:
                self.check(read, can_go_on, word)

    def test_pairs_of_words(self):
        chance = random.Random(1)
        for read, _, can_go_on in CODES:
            for one in WORDS:
                for other in chance.sample(WORDS, 20) + ["", "-", one]:
                    self.check(read, can_go_on, one + " " + other)

    def test_words_replaced_put_in_left_out_and_twice(self):
        found = {True: 0, False: 0}
        for read, _, can_go_on, code, chance in drawn_codes(2, 60):
            words = code.split(" ")
            for _ in range(6):
                at = chance.randrange(len(words))
                other = chance.choice(WORDS)
                for changed in (
                    words[:at] + [other] + words[at + 1:], words[:at] + [other] + words[at:], words + [other],
                    words[:at] + words[at + 1:], words[:at] + [words[at]] + words[at:], words + [words[at]],
                    words[:at][::-1] + words[at:],
                ):
                    found[self.check(read, can_go_on, " ".join(changed))] += 1
        self.assertGreater(min(found.values()), 300)

    def test_signs_put_in_and_left_out(self):
        found = {True: 0, False: 0}
        for read, _, can_go_on, code, chance in drawn_codes(3, 60):
            for _ in range(30):
                at = chance.randrange(len(code) + 1)
                sign = chance.choice("0123456789abzAZ-+_@:*., \n()'\"?")
                found[self.check(read, can_go_on, code[:at] + sign + code[at:])] += 1
                found[self.check(read, can_go_on, code[:at] + sign + code[at + 1:])] += 1
                found[self.check(read, can_go_on, code[:at] + code[at + 1:])] += 1
        self.assertGreater(min(found.values()), 300)

    def test_blanks(self):
        for read, _, can_go_on, code, chance in drawn_codes(4, 30):
            many = code.count(" ") + 1
            self.assertEqual(raised(self, InvalidCode, read, code + " ").at, 1 if code == "-" else many)
            self.assertEqual(raised(self, InvalidCode, read, " " + code).at, 0)
            if many > 1:
                self.assertEqual(raised(self, InvalidCode, read, code.replace(" ", "  ", 1)).at, 1)
                self.assertEqual(raised(self, InvalidCode, read, code.replace(" ", "\n", 1)).at, 0)
            for other in (code + "\n", "\n" + code, code.replace(" ", "\n"), code + " \n"):
                if other != code:
                    self.check(read, can_go_on, other)

    def test_the_empty_string_and_blanks_alone(self):
        for read, _, _ in CODES:
            for code in ("", " ", "  ", "\n", " \n", "   "):
                self.assertEqual(raised(self, InvalidCode, read, code).at, 0)
                self.assertEqual(raised(self, InvalidCode, read, code=code).at, 0)

    def test_errors(self):
        for read, _, _ in CODES:
            error = raised(self, InvalidCode, read, "?")
            self.assertIsInstance(error, StampError)
            self.assertEqual(error.at, 0)


class Limits(unittest.TestCase):
    def at(self, read, code):
        return raised(self, InvalidCode, read, code).at

    def test_nothing_stands_behind_a_dash(self):
        self.assertEqual(read_stampings("-"), [])
        for code in ("- -", "- 0@0", "- ", "-  ", "- 0@0 ?", "- ?"):
            self.assertEqual(self.at(read_stampings, code), 1)
        for code in ("0@0 -", "0@0 - 0@0", "1@1 -"):
            self.assertEqual(self.at(read_stampings, code), 1)
        for code in ("-", "- 0:0+0*1", "- ab"):
            self.assertEqual(self.at(read_parts, code), 0)
            self.assertEqual(self.at(read_stamps, code), 0)

    def test_too_many_stampings(self):
        self.assertEqual(len(read_stampings(" ".join(["0@0"] * 200))), 200)
        for many in (201, 202, 300):
            self.assertEqual(self.at(read_stampings, " ".join(["0@0"] * many)), 200)
        self.assertEqual(self.at(read_stampings, " ".join(["0@0"] * 200 + ["?"])), 200)
        self.assertEqual(self.at(read_stampings, " ".join(["0@0"] * 199 + ["?", "0@0"])), 199)

    def test_too_many_words_of_stamps(self):
        self.assertEqual(self.at(read_stamps, "a b c d e f g"), 6)
        self.assertEqual(self.at(read_stamps, "a b c d e f a"), 6)
        self.assertEqual(self.at(read_stamps, "a b c d e f ?"), 6)
        self.assertEqual(self.at(read_stamps, " ".join("abcdefgh" * 100)), 6)
        eights = ["aaaaaaa" + letter for letter in "abcdef"]
        self.assertEqual(len(read_stamps(" ".join(eights[:4]))), 4)
        self.assertEqual(self.at(read_stamps, " ".join(eights[:5])), 4)
        self.assertEqual(self.at(read_stamps, " ".join(eights)), 4)
        sevens = [word[1:] for word in eights]
        self.assertEqual(len(read_stamps(" ".join(sevens[:5]))), 5)
        self.assertEqual(self.at(read_stamps, " ".join(sevens)), 5)
        self.assertEqual(len(read_stamps(" ".join(word[2:] for word in eights))), 6)

    def test_words_of_stamps(self):
        for code, at in (
            ("ab abc", 1), ("abc ab", 1), ("ab ba ab", 2), ("ab ab", 1), ("a b c b", 3), ("abcdefghi", 0), ("ab aB", 1),
            ("ab a1", 1), ("Ab", 0), ("ab b.", 1), ("ab  ba", 1), ("ab ba ", 2), (" ab", 0), ("ab,ba", 0), ("ab -", 1),
        ):
            self.assertEqual(self.at(read_stamps, code), at, code)

    def test_places_that_do_not_ascend(self):
        for code, at in (
            ("0:0+0*1 0:0+0*1", 1), ("5:0+0*1 4:0+0*1", 1), ("0:0+0*1 2:0+0*1 2:1+0*1", 2), ("3:0+0*1 2:0+0*1 ?", 1),
            ("0:0+0*1 1:0+0*1 0:0+0*1 ?", 2), ("119:0+0*1 0:0+0*1", 1), ("10:0+0*1 9:0+0*1", 1),
        ):
            self.assertEqual(self.at(read_parts, code), at, code)
        self.assertEqual(len(read_parts("9:0+0*1 10:0+0*1 99:0+0*1 100:0+0*1")), 4)

    def test_too_many_parts(self):
        parts = [f"{place}:0+0*1" for place in range(120)]
        self.assertEqual(len(read_parts(" ".join(parts))), 120)
        for other in ("120:0+0*1", "119:0+0*1", "0:0+0*1", "121:0+0*1", ""):
            self.assertEqual(self.at(read_parts, " ".join(parts + [other])), 120)

    def test_pieces_longer_than_the_longest_word(self):
        for offset in range(8):
            self.assertEqual(read_parts(f"0:0+{offset}*{8 - offset}"), [(0, 0, offset, 8 - offset)])
            self.assertEqual(self.at(read_parts, f"0:0+{offset}*{9 - offset}"), 0)
            self.assertEqual(self.at(read_parts, f"0:0+{offset}*0"), 0)


if __name__ == "__main__":
    unittest.main()
