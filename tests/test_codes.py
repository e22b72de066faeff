"""Points 2, 3, 5 and 14: codes of stamps, stampings and parts."""

import copy
import random
import unittest

from overstamps.bands import Band
from overstamps.codes import read_parts, read_stampings, read_stamps, write_parts, write_stampings, write_stamps
from overstamps.errors import InvalidCode
from overstamps.stamps import Stamps
from tests import model, overs
from tests.things import drawn_stamps, long_stamps, most_cells, raised

READS = (read_stamps, read_stampings, read_parts)


def drawn_stampings(chance, many):
    return [(chance.randint(0, 5), chance.randint(-7, 119)) for _ in range(many)]


def drawn_parts(chance, many):
    parts = []
    for place in sorted(chance.sample(range(120), many)):
        offset = chance.randint(0, 7)
        parts.append((place, chance.randint(0, 5), offset, chance.randint(1, 8 - offset)))
    return parts


class Twice(unittest.TestCase):
    def check_stamps(self, words):
        code = write_stamps(Stamps(*words))
        self.assertEqual(code, " ".join(words))
        again = read_stamps(code)
        self.assertIs(type(again), Stamps)
        self.assertEqual(again.words, words)
        self.assertEqual(write_stamps(again), code)

    def test_stamps(self):
        chance = random.Random(1)
        for words in long_stamps() + [drawn_stamps(chance) for _ in range(200)]:
            self.check_stamps(words)

    def test_stamps_at_the_limits(self):
        for words in (["a"], ["z"], ["zyxwvuts"], list("fedcba"), ["abcdef"[at:] + "abcdef"[:at] for at in range(6)]):
            self.check_stamps(words)
        self.check_stamps(["aaaaaaa" + letter for letter in "abcd"])
        self.check_stamps(["aaaaaa" + letter for letter in "abcde"])

    def test_stampings(self):
        chance = random.Random(2)
        for many in [0, 1, 2, 3, 10, 199, 200] + [chance.randint(0, 200) for _ in range(40)]:
            stampings = drawn_stampings(chance, many)
            code = write_stampings(stampings)
            self.assertEqual(code, " ".join(f"{word}@{place}" for word, place in stampings) or "-")
            self.assertEqual(read_stampings(code), stampings)

    def test_each_stamping(self):
        for word in range(6):
            for place in range(-7, 120):
                code = str(word) + "@" + str(place)
                self.assertEqual(write_stampings([(word, place)]), code)
                self.assertEqual(read_stampings(code), [(word, place)])
                self.assertEqual(read_stampings(code + " 0@0 " + code), [(word, place), (0, 0), (word, place)])

    def test_parts(self):
        chance = random.Random(3)
        for many in [1, 2, 3, 119, 120] + [chance.randint(1, 120) for _ in range(40)]:
            parts = drawn_parts(chance, many)
            code = write_parts(parts)
            wanted = [f"{place}:{word}+{offset}*{length}" for place, word, offset, length in parts]
            self.assertEqual(code, " ".join(wanted))
            self.assertEqual(read_parts(code), parts)

    def test_each_part(self):
        for word in range(6):
            for offset in range(8):
                for length in range(1, 9 - offset):
                    for place in (0, 1, 9, 10, 99, 100, 119):
                        part = (place, word, offset, length)
                        code = f"{place}:{word}+{offset}*{length}"
                        self.assertEqual(write_parts([part]), code)
                        self.assertEqual(read_parts(code), [part])

    def test_what_the_program_returns(self):
        chance = random.Random(4)
        for words in long_stamps():
            for kind in model.KINDS:
                band = Band.named(kind, Stamps(*words))
                history, text = overs.printed_over(kind, words, "." * most_cells(kind), 20, chance)
                self.assertEqual(read_stampings(write_stampings(history)), history)
                parts = band.splitting(text)
                self.assertEqual(read_parts(write_parts(parts)), parts)
                stampings = band.stampings_of(text, parts)
                self.assertEqual(read_stampings(write_stampings(stampings)), stampings)

    def test_examples(self):
        self.assertEqual(write_stamps(Stamps("abc", "xyz")), "abc xyz")
        self.assertEqual(write_stampings([]), "-")
        self.assertEqual(read_stampings("-"), [])
        self.assertEqual(write_stampings([(0, 0), (5, -7), (1, 119)]), "0@0 5@-7 1@119")
        self.assertEqual(write_parts([(0, 0, 0, 2), (2, 1, 0, 3)]), "0:0+0*2 2:1+0*3")
        self.assertEqual(read_parts("0:0+0*2 2:1+0*3"), [(0, 0, 0, 2), (2, 1, 0, 3)])
        # The parts are those of any text: a code does not tell which words there are.
        self.assertEqual(read_parts("7:5+7*1 119:0+0*8"), [(7, 5, 7, 1), (119, 0, 0, 8)])

    def test_each_value_has_one_code(self):
        chance = random.Random(5)
        signs = "0123456789-+@:* abc"
        for _ in range(3000):
            code = "".join(chance.choice(signs) for _ in range(chance.randint(1, 9)))
            for read, write in ((read_stamps, write_stamps), (read_stampings, write_stampings), (read_parts, write_parts)):
                try:
                    worth = read(code)
                except InvalidCode:
                    continue
                self.assertEqual(write(worth), code)


class Calls(unittest.TestCase):
    def test_by_name(self):
        self.assertEqual(write_stamps(stamps=Stamps("ab")), "ab")
        self.assertEqual(read_stamps(code="ab").words, ["ab"])
        self.assertEqual(write_stampings(stampings=[(0, -1)]), "0@-1")
        self.assertEqual(read_stampings(code="0@-1"), [(0, -1)])
        self.assertEqual(write_parts(parts=[(0, 0, 0, 1)]), "0:0+0*1")
        self.assertEqual(read_parts(code="0:0+0*1"), [(0, 0, 0, 1)])

    def test_new_lists(self):
        for read, code in ((read_stampings, "-"), (read_stampings, "0@0 1@1"), (read_parts, "0:0+0*1 1:0+0*1")):
            one, other = read(code), read(code)
            self.assertEqual(one, other)
            self.assertIsNot(one, other)
            one.append((0, 0))
            self.assertEqual(read(code), other)
        self.assertIsNot(read_stamps("ab"), read_stamps("ab"))

    def test_arguments_do_not_change(self):
        stamps = Stamps("ab", "ba")
        write_stamps(stamps)
        self.assertEqual(stamps.words, ["ab", "ba"])
        for write, worth in ((write_stampings, []), (write_stampings, [(0, 0)]), (write_parts, [(0, 0, 0, 1)])):
            before = copy.deepcopy(worth)
            write(worth)
            self.assertEqual(worth, before)

    def test_kinds_of_results(self):
        for stamping in read_stampings("0@0 5@-7 1@119"):
            self.assertEqual([type(stamping)] + [type(number) for number in stamping], [tuple, int, int])
        for part in read_parts("0:0+0*1 119:5+7*1"):
            self.assertEqual([type(part)] + [type(number) for number in part], [tuple] + [int] * 4)
        for code in (write_stamps(Stamps("ab")), write_stampings([]), write_parts([(0, 0, 0, 1)])):
            self.assertIs(type(code), str)


if __name__ == "__main__":
    unittest.main()
