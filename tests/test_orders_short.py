"""Points 2, 3, 4 and 9: the orders of splittings with few parts, against all arrangements pressed cell by cell."""

import copy
import inspect
import random
import unittest
from itertools import permutations

from overstamps import orders
from overstamps.bands import Band
from overstamps.errors import InvalidNumber, InvalidOrder, InvalidParts, InvalidText
from overstamps.orders import always_before, count_orders, is_order, may_be_first, may_be_last, nth_order, order_index
from overstamps.stamps import Stamps
from tests import model, ways
from tests.things import BIG, bad_texts, mirrored, odd_things, raised, turned


def drawn_splittings(seed, rounds, most):
    """Splittings of short texts with so many parts at most: each kind of band, with one to three words."""
    chance = random.Random(seed)
    for _ in range(rounds):
        kind = chance.choice(model.KINDS)
        width = chance.randint(1, 4)
        letters = chance.choice(["a", "ab", "ab", "abc"])
        words = sorted({"".join(chance.choice(letters) for _ in range(width)) for _ in range(chance.randint(1, 3))})
        text = "".join(chance.choice(letters) for _ in range(chance.randint(1, 6)))
        every = [parts for parts in ways.every_splitting(kind, words, text) if len(parts) <= most]
        for parts in chance.sample(every, min(3, len(every))):
            yield kind, words, text, parts


class Pressed(unittest.TestCase):
    def check(self, kind, words, text, parts):
        told = (kind, words, text, parts)
        band = Band.named(kind, Stamps(*words))
        every = ways.pressed_orders(kind, words, parts, len(text))
        self.assertTrue(every, told)
        self.assertEqual(count_orders(band, text, parts), len(every), told)
        for index, order in enumerate(every):
            self.assertEqual(nth_order(band, text, parts, index), order, told)
            self.assertEqual(order_index(band, text, parts, order), index, told)
        for index in (-1, len(every), len(every) + 1, BIG, -BIG):
            raised(self, InvalidNumber, nth_order, band, text, parts, index)
        for order in permutations(range(len(parts))):
            shown = list(order) in every
            self.assertIs(is_order(band, text, parts, list(order)), shown, told)
            if not shown:
                raised(self, InvalidOrder, order_index, band, text, parts, list(order))
        self.check_ends(band, text, parts, every)

    def check_ends(self, band, text, parts, every):
        indexes = range(len(parts))
        self.assertEqual(may_be_first(band, text, parts), sorted({order[0] for order in every}))
        self.assertEqual(may_be_last(band, text, parts), sorted({order[-1] for order in every}))
        pairs = [
            (one, other) for one in indexes for other in indexes
            if one != other and all(order.index(one) < order.index(other) for order in every)
        ]
        self.assertEqual(always_before(band, text, parts), pairs)

    def test_drawn_splittings(self):
        kinds = set()
        for kind, words, text, parts in drawn_splittings(1, 700, 5):
            kinds.add((kind, len(parts)))
            self.check(kind, words, text, parts)
        for kind in model.KINDS:
            self.assertTrue({(kind, many) for many in range(1, 6)} <= kinds, kinds)

    def test_longer_words(self):
        for kind in model.KINDS:
            for words, text in ((["abcdefgh"], "abcdabcdefghh"), (["abcd", "efgh"], "aefghabcdghab"), (["abc"], "abcab")):
                band = Band.named(kind, Stamps(*words))
                if text in band:
                    self.check(kind, words, text, band.splitting(text))

    def test_a_ring_with_one_part(self):
        for words, text in ((["a"], "a"), (["ab"], "ab"), (["ab"], "ba"), (["abc"], "bca"), (["abcdefgh"], "habcdefg")):
            band = Band.named("ring", Stamps(*words))
            self.check("ring", words, text, band.splitting(text))
            self.assertEqual(may_be_last(band, text, band.splitting(text)), [0])
            self.assertEqual(always_before(band, text, band.splitting(text)), [])
            self.assertEqual(nth_order(band, text, band.splitting(text), 0), [0])

    def test_a_ring_with_two_parts(self):
        # Two seams between the same two parts.
        for words, text, parts, pairs in (
            (["abc"], "abcb", [(0, 0, 0, 3), (3, 0, 1, 1)], [(1, 0)]),
            (["abc"], "abca", [(0, 0, 0, 3), (3, 0, 0, 1)], [(1, 0)]),
            (["abc"], "abcc", [(0, 0, 0, 3), (3, 0, 2, 1)], [(1, 0)]),
            (["abc"], "babc", [(0, 0, 1, 1), (1, 0, 0, 3)], [(0, 1)]),
            (["abc"], "abcabc", [(0, 0, 0, 3), (3, 0, 0, 3)], []),
            (["abc"], "cabcab", [(1, 0, 0, 3), (4, 0, 0, 3)], []),
            (["a", "b"], "ab", [(0, 0, 0, 1), (1, 1, 0, 1)], []),
        ):
            band = Band.named("ring", Stamps(*words))
            self.assertEqual(always_before(band, text, parts), pairs)
            self.assertEqual(count_orders(band, text, parts), 2 - len(pairs))
            self.check("ring", words, text, parts)

    def test_the_ends_of_a_window(self):
        # The first part has no seam on its left, the last one none on its right.
        window = Band.named("window", Stamps("abc"))
        self.assertEqual(may_be_last(window, "b", [(0, 0, 1, 1)]), [0])
        parts = [(0, 0, 1, 2), (2, 0, 0, 2)]
        self.assertEqual(may_be_last(window, "bcab", parts), [0, 1])
        self.assertEqual(may_be_first(window, "bcab", parts), [0, 1])
        self.assertEqual(always_before(window, "bcab", parts), [])
        parts = [(0, 0, 1, 1), (1, 0, 0, 2)]
        self.assertEqual(may_be_last(window, "bab", parts), [1])
        self.assertEqual(may_be_first(window, "bab", parts), [0])
        self.assertEqual(always_before(window, "bab", parts), [(0, 1)])

    def test_chains(self):
        line = Band.named("line", Stamps("abc"))
        parts = [(0, 0, 0, 1), (1, 0, 0, 2), (3, 0, 0, 3), (6, 0, 1, 2), (8, 0, 2, 1)]
        text = "aababcbcc"
        pairs = [(0, 1), (0, 2), (1, 2), (3, 2), (4, 2), (4, 3)]
        self.assertEqual(always_before(line, text, parts), pairs)
        self.assertEqual(may_be_first(line, text, parts), [0, 4])
        self.assertEqual(may_be_last(line, text, parts), [2])
        self.assertEqual(count_orders(line, text, parts), 6)
        self.assertEqual(nth_order(line, text, parts, 0), [0, 1, 4, 3, 2])
        self.assertEqual(nth_order(line, text, parts, 5), [4, 3, 0, 1, 2])
        self.check("line", ["abc"], text, parts)


class OtherWays(unittest.TestCase):
    def test_read_backward(self):
        for kind, words, text, parts in drawn_splittings(2, 300, 6):
            band = Band.named(kind, Stamps(*words))
            mirror = Band.named(kind, Stamps(*[word[::-1] for word in words]))
            backward = mirrored(parts, len(text), len(words[0]))
            self.assertEqual(count_orders(mirror, text[::-1], backward), count_orders(band, text, parts))
            for call in (may_be_first, may_be_last, always_before):
                self.assertEqual(len(call(mirror, text[::-1], backward)), len(call(band, text, parts)))

    def test_a_ring_that_begins_elsewhere(self):
        for kind, words, text, parts in drawn_splittings(3, 400, 6):
            if kind == "ring":
                band = Band.named(kind, Stamps(*words))
                for far in range(1, len(text)):
                    other, moved = text[far:] + text[:far], turned(parts, len(text), far)
                    self.assertEqual(count_orders(band, other, moved), count_orders(band, text, parts))
                    for call in (may_be_first, may_be_last, always_before):
                        self.assertEqual(len(call(band, other, moved)), len(call(band, text, parts)))

    def test_an_order_shows_the_text(self):
        for kind, words, text, parts in drawn_splittings(4, 200, 6):
            band = Band.named(kind, Stamps(*words))
            stampings = band.stampings_of(text, parts)
            for index in (0, count_orders(band, text, parts) - 1):
                order = nth_order(band, text, parts, index)
                self.assertEqual(list(band.replay(len(text), [stampings[part] for part in order]))[-1], text)


def cases():
    line, window, ring = (Band.named(kind, Stamps("abc")) for kind in model.KINDS)
    yield line, "aababcbcc", [(0, 0, 0, 1), (1, 0, 0, 2), (3, 0, 0, 3), (6, 0, 1, 2), (8, 0, 2, 1)]
    yield window, "bcab", [(0, 0, 1, 2), (2, 0, 0, 2)]
    yield ring, "babcca", [(1, 0, 0, 3), (4, 0, 2, 1), (5, 0, 0, 2)]


class AnyObject(unittest.TestCase):
    def changed(self, order):
        many = len(order)
        for at in range(many):
            yield order[:at] + order[at + 1:]
            yield order[:at] + [order[at]] + order[at:]
            for other in range(many):
                moved = order[:at] + order[at + 1:]
                yield moved[:other] + [order[at]] + moved[other:]
                exchanged = list(order)
                exchanged[at], exchanged[other] = exchanged[other], exchanged[at]
                yield exchanged
                yield order[:at] + [other] + order[at + 1:]
            for thing in (many, -1, many + 1, BIG, -BIG, None, str(order[at]), [order[at]], (order[at],), {}):
                yield order[:at] + [thing] + order[at + 1:]
                yield order[:at] + [thing] + order[at:]

    def test_changed_orders(self):
        for band, text, parts in cases():
            every = list(model.good_orders(band.NAME, band.stamps.words, parts))
            for order in every[:6]:
                for thing in self.changed(order):
                    before = copy.deepcopy(thing)
                    self.assertIs(is_order(band, text, parts, thing), thing in every)
                    if thing in every:
                        self.assertEqual(order_index(band, text, parts, thing), every.index(thing))
                    else:
                        raised(self, InvalidOrder, order_index, band, text, parts, thing)
                    self.assertEqual(thing, before)

    def test_other_kinds(self):
        for band, text, parts in cases():
            order = nth_order(band, text, parts, 0)
            others = [tuple(order), [order], {"order": order}, str(order), [str(index) for index in order], parts, text]
            others += [[tuple(order)], order + [None], [None] + order, [[index] for index in order], band, [band]]
            for thing in odd_things() + others + [[], [0] * 2999, list(range(2999)), [[0]] * 24]:
                self.assertIs(is_order(band, text, parts, thing), False)
                raised(self, InvalidOrder, order_index, band, text, parts, thing)

    def test_booleans_are_no_integers(self):
        ring = Band.named("ring", Stamps("a", "b"))
        parts = [(0, 0, 0, 1), (1, 1, 0, 1)]
        self.assertIs(is_order(ring, "ab", parts, [0, 1]), True)
        self.assertIs(is_order(ring, "ab", parts, [1, 0]), True)
        for thing in ([False, 1], [0, True], [False, True], [True, False], [True, 0], [1, False]):
            self.assertIs(is_order(ring, "ab", parts, thing), False)
            raised(self, InvalidOrder, order_index, ring, "ab", parts, thing)
        for thing in ([False], [True], [0, 0], [-1], [1], []):
            self.assertIs(is_order(ring, "a", parts[:1], thing), False)
        self.assertIs(is_order(ring, "a", parts[:1], [0]), True)


class Errors(unittest.TestCase):
    def calls(self):
        """Each function with arguments behind the parts that are right, and ones that are wrong."""
        return (
            (is_order, ([0],), (None,)), (count_orders, (), ()), (nth_order, (0,), (-1,)), (order_index, ([0],), (7,)),
            (always_before, (), ()), (may_be_last, (), ()), (may_be_first, (), ()),
        )

    def test_texts_before_all_else(self):
        for band, text, parts in cases():
            for wrong in bad_texts(band.NAME):
                for call, right, bad in self.calls():
                    raised(self, InvalidText, call, band, wrong, parts, *right)
                    raised(self, InvalidText, call, band, wrong, None, *bad)

    def test_parts_before_the_rest(self):
        for band, text, parts in cases():
            wrong = odd_things() + [[], parts[:-1], parts + parts, tuple(parts), [parts], text, [list(row) for row in parts]]
            for thing in wrong:
                for call, right, bad in self.calls():
                    raised(self, InvalidParts, call, band, text, thing, *right)
                    raised(self, InvalidParts, call, band, text, thing, *bad)

    def test_splittings_with_too_many_parts(self):
        for kind in model.KINDS:
            band = Band.named(kind, Stamps("a", "b"))
            for many in (25, 26, 60):
                parts = band.splitting("ab" * 12 + "a" * (many - 24))
                self.assertEqual(len(parts), many)
                for call, right, bad in self.calls():
                    raised(self, InvalidParts, call, band, "ab" * 12 + "a" * (many - 24), parts, *right)
                    raised(self, InvalidParts, call, band, "ab" * 12 + "a" * (many - 24), parts, *bad)
            self.assertEqual(may_be_last(band, "ab" * 12, band.splitting("ab" * 12)), list(range(24)))

    def test_numbers(self):
        for band, text, parts in cases():
            many = count_orders(band, text, parts)
            for index in (-1, -many, many, many + 1, 2 ** 64, BIG, -BIG):
                raised(self, InvalidNumber, nth_order, band, text, parts, index)
                raised(self, InvalidNumber, nth_order, index=index, parts=parts, text=text, band=band)

    def test_arguments_do_not_change(self):
        for band, text, parts in cases():
            before = copy.deepcopy(parts)
            order = nth_order(band, text, parts, 0)
            kept = list(order)
            for call, right in (
                (is_order, (order,)), (count_orders, ()), (nth_order, (0,)), (order_index, (order,)),
                (always_before, ()), (may_be_last, ()), (may_be_first, ()),
            ):
                call(band, text, parts, *right)
                self.assertEqual(parts, before)
                self.assertEqual(order, kept)

    def test_new_lists(self):
        for band, text, parts in cases():
            for call, more in ((nth_order, (0,)), (always_before, ()), (may_be_last, ()), (may_be_first, ())):
                found = call(band, text, parts, *more)
                self.assertIs(type(found), list)
                kept = list(found)
                found.append("more")
                self.assertEqual(call(band, text, parts, *more), kept)

    def test_kinds_of_results(self):
        for band, text, parts in cases():
            order = nth_order(band, text, parts, 0)
            self.assertEqual({type(index) for index in order}, {int})
            self.assertIs(type(count_orders(band, text, parts)), int)
            self.assertIs(type(order_index(band, text, parts, order)), int)
            self.assertIs(type(is_order(band, text, parts, order)), bool)
            for pair in always_before(band, text, parts):
                self.assertIs(type(pair), tuple)
                self.assertEqual([type(index) for index in pair], [int, int])

    def test_by_position_and_by_name(self):
        for band, text, parts in cases():
            order = nth_order(band, text, parts, 0)
            self.assertEqual(nth_order(index=0, parts=parts, text=text, band=band), order)
            self.assertEqual(order_index(order=order, parts=parts, text=text, band=band), 0)
            self.assertIs(is_order(thing=order, parts=parts, text=text, band=band), True)
            for call in (count_orders, always_before, may_be_last, may_be_first):
                self.assertEqual(call(parts=parts, text=text, band=band), call(band, text, parts))

    def test_names_and_arguments(self):
        more = {"is_order": ["thing"], "nth_order": ["index"], "order_index": ["order"]}
        for name in ("is_order", "count_orders", "nth_order", "order_index", "always_before", "may_be_last",
                     "may_be_first"):
            function = getattr(orders, name)
            self.assertEqual(function.__module__, "overstamps.orders")
            self.assertEqual(list(inspect.signature(function).parameters), ["band", "text", "parts"] + more.get(name, []))


if __name__ == "__main__":
    unittest.main()
