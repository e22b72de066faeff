"""A second way to work out what the document says of countings, orders, tables and patterns, for the tests."""

from functools import lru_cache
from itertools import permutations
from math import comb

from tests import model

SHIFT = 1024


def agreeing(words, cells, at, stop):
    """All (word, offset, length) that agree with the cells from at on, before stop."""
    found = []
    for word, letters in enumerate(words):
        for offset in range(len(letters)):
            for length in range(1, min(len(letters) - offset, stop - at) + 1):
                if cells[at:at + length] == letters[offset:offset + length]:
                    found.append((word, offset, length))
    return found


def every_splitting(kind, words, text):
    """All splittings of a short text, ascending: every part at every place is tried."""
    size = len(text)
    cells = text + text if kind == "ring" else text
    found = []

    def grow(parts, at, stop):
        if at == stop:
            if parts[-1][0] < size and model.is_splitting(kind, words, text, parts):
                found.append(parts)
            return
        for word, offset, length in agreeing(words, cells, at, stop):
            if kind != "ring" or length <= size:
                grow(parts + [(at, word, offset, length)], at + length, stop)

    for start in range(size) if kind == "ring" else [0]:
        grow([], start, start + size)
    return sorted(found)


def counted_row(kind, words, text):
    """The numbers of splittings of a row by how many parts they have, letter by letter, as one sum of shifted bits."""
    width = len(words[0])
    places = [(word, offset) for word in range(len(words)) for offset in range(width)]
    now = {(w, o): 1 << SHIFT for w, o in places if words[w][o] == text[0] and (kind == "window" or o == 0)}
    for letter in text[1:]:
        after = {}
        every = sum(now.values())
        ended = sum(ways for (_, o), ways in now.items() if o + 1 == width)
        for w, o in places:
            if words[w][o] == letter:
                seam = every if o == 0 else ended
                after[w, o] = now.get((w, o - 1), 0) + (seam << SHIFT)
        now = after
    return sum(ways for (_, o), ways in now.items() if kind == "window" or o + 1 == width)


def counted_ring(words, text):
    """The same for a ring: the whole part with the least place in turn, and a row from its end to its beginning."""
    size, width = len(text), len(words[0])
    if size < width:
        return 0
    cells = text + text
    steps = [agreeing(words, cells, at, at + width) for at in range(size)]
    total = 0
    for start in range(size):
        if cells[start:start + width] in words:
            total += counted_behind(steps, width, start, size)
    return total


def counted_behind(steps, width, start, size):
    stop = start + size
    ways = {(start + width, True): 1 << SHIFT}
    for at in range(start + width, stop):
        for ended in (False, True):
            here = ways.pop((at, ended), 0) << SHIFT
            for _, offset, length in steps[at % size] if here else []:
                # From cell 0 on there is no whole part: it would have a lesser place.
                if at + length <= stop and (ended or offset == 0) and (length < width or at < size):
                    key = (at + length, offset + length == width)
                    ways[key] = ways.get(key, 0) + here
    return ways.get((stop, False), 0) + ways.get((stop, True), 0)


def counted(kind, words, text):
    """The numbers of splittings by how many parts they have: a dict without zeros."""
    bits = counted_ring(words, text) if kind == "ring" else counted_row(kind, words, text)
    numbers = {}
    many = 0
    while bits:
        if bits & ((1 << SHIFT) - 1):
            numbers[many] = bits & ((1 << SHIFT) - 1)
        bits >>= SHIFT
        many += 1
    return numbers


def ways_behind(kind, words, text, start, loose):
    """In how many ways one can go on, as a function; the first part stands at start, and loose tells whether it begins.

    The function is asked with a cell, whether the part before it ends, and whether a whole part was met.
    """
    size, width = len(text), len(words[0])
    cells = text + text if kind == "ring" else text
    stop = start + size if kind == "ring" else size

    @lru_cache(maxsize=None)
    def ways(at, ended, whole):
        if at == stop:
            closes = ended or kind == "window" or (kind == "ring" and loose)
            return int(closes and (whole or kind != "ring"))
        if at >= size:
            return 0
        total = 0
        for _, offset, length in agreeing(words, cells, at, stop):
            if ended or offset == 0:
                total += ways(at + length, offset + length == width, whole or length == width)
        return total

    return ways


def index_of_splitting(kind, words, text, parts):
    """How many splittings come before one: those that begin like it and go on with a lesser part."""
    size, width = len(text), len(words[0])
    cells = text + text if kind == "ring" else text
    index = 0
    for place in range(parts[0][0] + 1 if kind == "ring" else 1):
        for loose in (False, True):
            ways = ways_behind(kind, words, text, place, loose)
            for word, offset, length in agreeing(words, cells, place, place + size if kind == "ring" else size):
                if (place, word, offset, length) < parts[0] and (offset == 0) == loose and (kind != "line" or loose):
                    index += ways(place + length, offset + length == width, length == width)
    ways = ways_behind(kind, words, text, parts[0][0], parts[0][2] == 0)
    stop = parts[0][0] + size if kind == "ring" else size
    for many in range(1, len(parts)):
        last = parts[many - 1]
        ended = last[2] + last[3] == width
        whole = any(part[3] == width for part in parts[:many])
        place = last[0] + last[3]
        for word, offset, length in agreeing(words, cells, place, stop):
            if (place, word, offset, length) < parts[many] and (ended or offset == 0):
                index += ways(place + length, offset + length == width, whole or length == width)
    return index


def neighbours(kind, words, parts):
    """For each part what lies over it: the parts that come later than it by R3."""
    later = [[] for _ in parts]
    for one, other in model.constraints(kind, words, parts):
        later[one].append(other)
    return later


def count_path(signs):
    """How many arrangements of 0 .. len(signs) go up at each "<", down at each ">", and anyhow at each "?"."""
    ranks = [1]
    for sign in signs:
        size = len(ranks) + 1
        if sign == "<":
            ranks = [sum(ranks[:rank]) for rank in range(size)]
        elif sign == ">":
            ranks = [sum(ranks[rank:]) for rank in range(size)]
        else:
            ranks = [sum(ranks)] * size
    return sum(ranks)


def sign_between(left, right, width):
    if left[2] + left[3] != width:
        return "<"
    return ">" if right[2] != 0 else "?"


def counted_orders(kind, words, parts):
    """The number of orders, by the relative ranks of the turns of neighbouring parts."""
    width = len(words[0])
    if kind != "ring":
        return count_path([sign_between(left, right, width) for left, right in zip(parts, parts[1:])])
    # On a ring one part is the last one of all: it is whole, and what is left is a row.
    total = 0
    for index, part in enumerate(parts):
        if part[2] == 0 and part[3] == width:
            row = parts[index + 1:] + parts[:index]
            total += count_path([sign_between(left, right, width) for left, right in zip(row, row[1:])])
    return total


def pressed_orders(kind, words, parts, size):
    """All orders of the parts that show each of them when they are pressed cell by cell, ascending."""
    width = len(words[0])
    cells = [sorted(model.part_cells(kind, size, part)) for part in parts]
    stampings = []
    for place, word, offset, _ in parts:
        stampings.append((word, (place - offset) % size if kind == "ring" else place - offset))
    found = []
    for order in permutations(range(len(parts))):
        shown = model.seen(kind, size, words, [stampings[index] for index in order])
        if all(shown[turn] == cells[index] for turn, index in enumerate(order)):
            found.append(list(order))
    assert all(model.fits(kind, size, words, word, place) for word, place in stampings), width
    return found


def next_order(kind, words, parts, order):
    """The order that comes next in ascending order, or None."""
    before = [[] for _ in parts]
    for one, others in enumerate(neighbours(kind, words, parts)):
        for other in others:
            before[other].append(one)

    def free(done):
        return [index for index in range(len(parts)) if index not in done and all(one in done for one in before[index])]

    for many in reversed(range(len(order))):
        greater = [index for index in free(order[:many]) if index > order[many]]
        if greater:
            found = order[:many] + greater[:1]
            while len(found) < len(parts):
                found = found + free(found)[:1]
            return found
    return None


def table_by_lists(kind, words, text):
    """The table of a short text from all lists of parts that lead to its cells."""
    width = len(words[0])
    least = [{} for _ in text]

    def grow(many, at, ended):
        for word, offset, length in agreeing(words, text, at, len(text)):
            if ended or offset == 0:
                spot = (word, offset + length - 1)
                known = least[at + length - 1]
                known[spot] = min(many + 1, known.get(spot, many + 1))
                if at + length < len(text):
                    grow(many + 1, at + length, offset + length == width)

    grow(0, 0, kind == "window")
    return [[spot + (known[spot],) for spot in sorted(known)] for known in least]


def table_by_rounds(kind, words, text):
    """The table of a text: with one part after another, which spots can be reached at which cells."""
    width = len(words[0])
    spots = [(w, o) for w in range(len(words)) for o in range(width)]
    agree = [[spot for spot in spots if words[spot[0]][spot[1]] == letter] for letter in text]
    least = [{} for _ in text]
    front = [(0, spot) for spot in agree[0] if kind == "window" or spot[1] == 0]
    many = 0
    while front:
        many += 1
        behind = []
        for at, (w, o) in front:
            while at < len(text) and o < width and words[w][o] == text[at] and (w, o) not in least[at]:
                least[at][w, o] = many
                if at + 1 < len(text):
                    behind.extend((at + 1, spot) for spot in agree[at + 1] if o + 1 == width or spot[1] == 0)
                at, o = at + 1, o + 1
        front = [(at, spot) for at, spot in dict.fromkeys(behind) if spot not in least[at]]
    return [[spot + (known[spot],) for spot in sorted(known)] for known in least]


def table_shows(kind, words, text, number, table):
    """What the document says of a table that shows a number, sentence by sentence."""
    width = len(words[0])
    if type(table) is not list or len(table) != len(text):
        return False
    for cell, row in zip(text, table):
        if type(row) is not list:
            return False
        for entry in row:
            if type(entry) is not tuple or len(entry) != 3 or any(type(part) is not int for part in entry):
                return False
            if entry[0] not in range(len(words)) or entry[1] not in range(width):
                return False
            if words[entry[0]][entry[1]] != cell:
                return False
        if sorted(set(row)) != row or len({entry[:2] for entry in row}) != len(row):
            return False
    spots = [(w, o) for w in range(len(words)) for o in range(width)]
    for w, o in spots:
        if words[w][o] == text[0] and (kind == "window" or o == 0):
            if not any(entry[:2] == (w, o) and entry[2] <= 1 for entry in table[0]):
                return False
    for at in range(len(text) - 1):
        for w, o, bound in table[at]:
            if o + 1 < width and words[w][o + 1] == text[at + 1]:
                if not any(entry[:2] == (w, o + 1) and entry[2] <= bound for entry in table[at + 1]):
                    return False
            for w2, o2 in spots:
                if words[w2][o2] == text[at + 1] and (o + 1 == width or o2 == 0):
                    if not any(entry[:2] == (w2, o2) and entry[2] <= bound + 1 for entry in table[at + 1]):
                        return False
    return all(bound >= number for _, o, bound in table[-1] if kind == "window" or o + 1 == width)


def fewest_filled(kind, words, pattern):
    """The least number of parts over all texts that agree with a pattern, letter by letter, or None."""
    width = len(words[0])
    spots = [(w, o) for w in range(len(words)) for o in range(width)]
    agree = [[(w, o) for w, o in spots if sign in ("?", words[w][o])] for sign in pattern]
    now = {(w, o): 1 for w, o in agree[0] if kind == "window" or o == 0}
    for here in agree[1:]:
        after = {}
        any_seam = min(now.values(), default=None)
        end_seam = min((many for (_, o), many in now.items() if o + 1 == width), default=None)
        for w, o in here:
            ways = [now.get((w, o - 1)), None if end_seam is None else end_seam + 1]
            if o == 0 and any_seam is not None:
                ways.append(any_seam + 1)
            ways = [many for many in ways if many is not None]
            if ways:
                after[w, o] = min(ways)
        now = after
    return min((many for (_, o), many in now.items() if kind == "window" or o + 1 == width), default=None)


def euler_numbers(most):
    """The numbers of arrangements that go up and down by turns, by another formula."""
    numbers = [1, 1]
    for size in range(1, most):
        numbers.append(sum(comb(size, k) * numbers[k] * numbers[size - k] for k in range(size + 1)) // 2)
    return numbers
