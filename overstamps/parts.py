"""Parts, what is seen of stampings: splittings of rows and rings of cells, and the shortest ones.

A row is a line or a window. It is closed if its first part must begin and its last part must end. If a text is printed
over an old strip, some cells of a row may be kept: what they show is their old letter, and no part is needed there.
"""

# What cannot be covered counts as so many parts or more; no splitting has as many.
TOO_MANY = 1000

# The lengths of the parts at a cell with a letter that no word has.
NO_REACH = (0, 0, 0)

# What stands before a cell: a part that does not end, a part that ends, a cell that is kept.
LOOSE = 0
ENDED = 1
KEPT = 2


def is_integer(thing):
    """Tell whether any object is an integer; a boolean is none."""
    return isinstance(thing, int) and not isinstance(thing, bool)


def is_part(words, thing):
    """Tell whether any object is a part of one of the words, on whatever text."""
    if not isinstance(thing, tuple) or len(thing) != 4:
        return False
    for number in thing:
        if not is_integer(number):
            return False
    place, word, offset, length = thing
    if place < 0 or not 0 <= word < len(words):
        return False
    return offset >= 0 and length >= 1 and offset + length <= len(words[word])


def are_parts(words, thing):
    """Tell whether any object is a list of parts, and not the empty one."""
    if not isinstance(thing, list):
        return False
    for part in thing:
        if not is_part(words, part):
            return False
    return len(thing) > 0


def begins(part):
    """Tell whether a part shows the first letter of its word."""
    return part[2] == 0


def ends(part, width):
    """Tell whether a part shows the last letter of its word."""
    return part[2] + part[3] == width


def cover(words, cells, parts, size, ended):
    """Tell whether parts follow one another over so many cells, agree with them and have seams that hold.

    The first one stands where it says; ended tells whether what is on its left ends.
    """
    width = len(words[0])
    start = parts[0][0]
    at = start
    for place, word, offset, length in parts:
        if place != at or (offset > 0 and not ended):
            return False
        at = place + length
        if cells[place:at] != words[word][offset:offset + length]:
            return False
        ended = offset + length == width
    return at == start + size


def splits_row(words, text, thing, closed):
    """Tell whether any object is a splitting of a text on a row."""
    if not are_parts(words, thing) or thing[0][0] != 0:
        return False
    if closed and not ends(thing[-1], len(words[0])):
        return False
    return cover(words, text, thing, len(text), not closed)


def splits_ring(words, text, thing):
    """Tell whether any object is a splitting of a text on a ring."""
    if not are_parts(words, thing) or thing[-1][0] >= len(text):
        return False
    width = len(words[0])
    if not any(length == width for place, word, offset, length in thing):
        return False
    # What is on the left of the first part is the last one.
    return cover(words, text + text, thing, len(text), ends(thing[-1], width))


def spots_of(words):
    """Return for each piece of the words the ascending list of the (word, offset) where they have it."""
    spots = {}
    for word, stamp in enumerate(words):
        for offset in range(len(stamp)):
            for stop in range(offset + 1, len(stamp) + 1):
                spots.setdefault(stamp[offset:stop], []).append((word, offset))
    return spots


def kinds_of(spots, length, width):
    """Return the length, and how many parts of it at these spots only begin, do neither, only end, do both."""
    firsts = inners = lasts = wholes = 0
    for _, offset in spots:
        if length == width:
            wholes += 1
        elif offset == 0:
            firsts += 1
        elif offset + length == width:
            lasts += 1
        else:
            inners += 1
    return length, firsts, inners, lasts, wholes


class Pieces:
    """The pieces of some words, of which parts are made: a piece is what a part can show.

    spots tells for each piece where words have it, kinds its length and how many parts of each kind show it: how many
    only begin, neither begin nor end, only end, do both. Each beginning of a piece is a piece, too, so whoever goes
    on from length to length stops at the first letters that are none.
    """

    def __init__(self, words):
        self.span = len(words[0])
        self.spots = spots_of(words)
        self.kinds = {piece: kinds_of(self.spots[piece], len(piece), self.span) for piece in self.spots}

    def parts_of(self, letters):
        """Return the ascending list of the (word, offset, length) that the letters begin with."""
        found = []
        for length in range(1, len(letters) + 1):
            spots = self.spots.get(letters[:length])
            if spots is None:
                break
            found.extend([(word, offset, length) for word, offset in spots])
        return sorted(found)

    def kinds_of_lengths(self, letters):
        """Return the ascending list of the (length, firsts, inners, lasts, wholes) of the parts of the letters."""
        found = []
        for length in range(1, len(letters) + 1):
            kinds = self.kinds.get(letters[:length])
            if kinds is None:
                break
            found.append(kinds)
        return found


def reach_of(kinds):
    """Return the greatest lengths of such parts: that begin but do not end, that do not end, that end; 0 for none."""
    begun = loose = ended = 0
    for length, firsts, inners, lasts, wholes in kinds:
        if firsts > 0:
            begun = length
        if firsts > 0 or inners > 0:
            loose = length
        if lasts > 0 or wholes > 0:
            ended = length
    return begun, loose, ended


def reaches_of(pieces, cells, size):
    """Return for each of so many cells the greatest lengths of the parts that can stand there."""
    known = {}
    reaches = []
    for at in range(size):
        letters = cells[at:at + pieces.span]
        if letters not in known:
            known[letters] = reach_of(pieces.kinds_of_lengths(letters))
        reaches.append(known[letters])
    return reaches


def fewest_rests(reaches, kept, width, closed):
    """Return with how few parts each cell of a row and all behind it can be covered, and no cell at the end.

    It is a tuple of three lists: after a part that does not end, so that one that begins must follow, after one that
    ends, and after a cell that is kept, so that another one or a part that begins must follow. kept tells for each cell
    whether it may be kept. The parts at the cells may be longer than what is left of the row, if it is not closed.
    """
    size = len(reaches)
    after_loose = [TOO_MANY] * size + [TOO_MANY if closed else 0]
    after_ended = [TOO_MANY] * size + [0]
    after_kept = [TOO_MANY] * size + [0]
    at = size
    for begun, loose, ended in reversed(reaches):
        behind = at
        at -= 1
        # A part that does not end can be cut short anywhere.
        least_begun = min(after_loose[behind:behind + begun]) if begun > 0 else TOO_MANY
        least = min(after_loose[behind:behind + loose]) if loose > begun else least_begun
        # Of the parts that end the longest one is enough: after an end, fewer cells never need more parts. If it is
        # longer than what is left, then a part that does not end covers that.
        rest = after_ended[at + ended] if at + ended <= size else TOO_MANY
        if rest < least:
            least = rest
        if rest < least_begun and ended == width:
            least_begun = rest
        after_loose[at] = after_kept[at] = least_begun + 1
        after_ended[at] = least + 1
        if kept[at]:
            after_kept[at] = min(after_kept[at], after_kept[behind])
            after_ended[at] = min(after_ended[at], after_kept[behind])
    return after_loose, after_ended, after_kept


def least_cover(pieces, cells, kept, rests, before):
    """Return the least of the shortest lists of parts that cover a row, given its rests and what stands before it.

    A cell that can be kept in such a list is kept.
    """
    width = pieces.span
    parts = []
    at = 0
    while at < len(cells):
        left = rests[before][at]
        if kept[at] and before != LOOSE and rests[KEPT][at + 1] == left:
            before = KEPT
            at += 1
            continue
        for word, offset, length in pieces.parts_of(cells[at:at + width]):
            behind = ENDED if offset + length == width else LOOSE
            if rests[behind][at + length] + 1 == left and (before == ENDED or offset == 0):
                break
        parts.append((at, word, offset, length))
        before = behind
        at = at + length
    return parts


def rests_of_row(pieces, cells, kept, closed):
    """Return the rests of a row of cells."""
    return fewest_rests(reaches_of(pieces, cells, len(cells)), kept, pieces.span, closed)


def fewest_row(pieces, cells, kept, closed):
    """Return the least number of parts that cover a row but for cells that are kept, or None."""
    # At the beginning of a closed row a part begins, as it does behind a cell that is kept.
    fewest = rests_of_row(pieces, cells, kept, closed)[KEPT if closed else ENDED][0]
    return fewest if fewest < TOO_MANY else None


def least_row(pieces, cells, kept, closed):
    """Return as few parts as possible that cover a row but for cells that are kept, or None."""
    rests = rests_of_row(pieces, cells, kept, closed)
    before = KEPT if closed else ENDED
    return least_cover(pieces, cells, kept, rests, before) if rests[before][0] < TOO_MANY else None


def rests_around(reaches, width, start):
    """Return the rests of the cells of a ring between the end and the beginning of a whole part at start."""
    # A whole part both begins and ends, so these cells are a row that is not closed.
    around = (reaches + reaches)[start + width:start + len(reaches)]
    return fewest_rests(around, [False] * len(around), width, False)


def fewest_around(pieces, text):
    """Return the least number of parts of a splitting of a ring, and where in it a whole part stands.

    The number is TOO_MANY if there is no splitting.
    """
    width = pieces.span
    size = len(text)
    best = (TOO_MANY, 0)
    if size < width:
        return best
    reaches = reaches_of(pieces, text + text, size)
    if NO_REACH in reaches:
        return best
    for start in range(size):
        # What is as short as parts of this width can be need not be looked for again.
        if reaches[start][2] == width and (best[0] - 1) * width >= size:
            rests = rests_around(reaches, width, start)
            best = min(best, (rests[ENDED][0] + 1, start))
    return best


def fewest_ring(pieces, text):
    """Return the least number of parts of a splitting of a text on a ring, or None."""
    fewest, _ = fewest_around(pieces, text)
    return fewest if fewest < TOO_MANY else None


def least_ring(pieces, text):
    """Return a splitting of a text on a ring with as few parts as possible, or None."""
    fewest, start = fewest_around(pieces, text)
    if fewest >= TOO_MANY:
        return None
    width = pieces.span
    size = len(text)
    around = text + text
    word, _ = pieces.spots[around[start:start + width]][0]
    rests = rests_around(reaches_of(pieces, around, size), width, start)
    parts = [(start, word, 0, width)]
    cells = around[start + width:start + size]
    for place, other, offset, length in least_cover(pieces, cells, [False] * len(cells), rests, ENDED):
        parts.append(((start + width + place) % size, other, offset, length))
    return sorted(parts)
