"""Parts, what is seen of stampings: splittings of rows and rings of cells, and the shortest ones.

A row is a line or a window. It is closed if its first part must begin and its last part must end.
"""

# What is left to cover at the end of a row: no part, so there is no word, offset or length either.
NO_REST = (0, 0, 0, 0)


def is_integer(thing):
    """Tell whether any object is an integer; a boolean is none."""
    return isinstance(thing, int) and not isinstance(thing, bool)


def is_part(words, thing):
    """Tell whether any object is a part of one of the words, on whatever text."""
    if not isinstance(thing, tuple) or len(thing) != 4:
        return False
    if not all(is_integer(number) for number in thing):
        return False
    place, word, offset, length = thing
    if place < 0 or not 0 <= word < len(words):
        return False
    return offset >= 0 and length >= 1 and offset + length <= len(words[word])


def are_parts(words, thing):
    """Tell whether any object is a list of parts, and not the empty one."""
    return isinstance(thing, list) and len(thing) > 0 and all(is_part(words, part) for part in thing)


def begins(part):
    """Tell whether a part shows the first letter of its word."""
    return part[2] == 0


def ends(part, width):
    """Tell whether a part shows the last letter of its word."""
    return part[2] + part[3] == width


def cover(parts, start, size):
    """Tell whether the parts follow one another from start on, over just so many cells."""
    at = start
    for place, _, _, length in parts:
        if place != at:
            return False
        at = at + length
    return at == start + size


def agree(words, cells, parts):
    """Tell whether the cells have the letters that the parts show."""
    for place, word, offset, length in parts:
        if cells[place:place + length] != words[word][offset:offset + length]:
            return False
    return True


def seams_hold(parts, width):
    """Tell whether at each seam of a row the left part ends or the right part begins."""
    for left, right in zip(parts, parts[1:]):
        if not ends(left, width) and not begins(right):
            return False
    return True


def splits_row(words, text, thing, closed):
    """Tell whether any object is a splitting of a text on a row."""
    if not are_parts(words, thing):
        return False
    width = len(words[0])
    if closed and not (begins(thing[0]) and ends(thing[-1], width)):
        return False
    return cover(thing, 0, len(text)) and agree(words, text, thing) and seams_hold(thing, width)


def splits_ring(words, text, thing):
    """Tell whether any object is a splitting of a text on a ring."""
    if not are_parts(words, thing):
        return False
    width = len(words[0])
    size = len(text)
    if thing[-1][0] >= size or not cover(thing, thing[0][0], size):
        return False
    if not any(begins(part) and ends(part, width) for part in thing):
        return False
    # The first part stands also behind the last one, for the seam between these two.
    return agree(words, text + text, thing) and seams_hold(thing + thing[:1], width)


def spots_of(words):
    """Return for each piece of the words the ascending list of the (word, offset) where they have it."""
    spots = {}
    for word, stamp in enumerate(words):
        for offset in range(len(stamp)):
            for stop in range(offset + 1, len(stamp) + 1):
                spots.setdefault(stamp[offset:stop], []).append((word, offset))
    return spots


def kinds_of(spots, length, width):
    """Return how many parts of this length at these spots only begin, do neither, only end, do both."""
    firsts = inners = lasts = wholes = 0
    for _, offset in spots:
        if length == width:
            wholes += 1
        elif offset == 0:
            firsts += 1
        elif offset + length == width:
            lasts += 1
        else:
            inners += 1
    return firsts, inners, lasts, wholes


class Pieces:
    """The pieces of some words, of which parts are made: a piece is what a part can show.

    spots tells for each piece where words have it, kinds how many parts of each kind show it: as many as only begin,
    neither begin nor end, only end, do both. Each beginning of a piece is a piece, too, so whoever goes on from
    length to length stops at the first letters that are none.
    """

    def __init__(self, words):
        self.span = len(words[0])
        self.spots = spots_of(words)
        self.kinds = {piece: kinds_of(self.spots[piece], len(piece), self.span) for piece in self.spots}

    def parts_of(self, letters):
        """Return the ascending list of the (word, offset, length) that the letters begin with."""
        found = []
        for length in range(1, len(letters) + 1):
            spots = self.spots.get(letters[:length])
            if spots is None:
                break
            found.extend([(word, offset, length) for word, offset in spots])
        return sorted(found)

    def kinds_of_lengths(self, letters):
        """Return the ascending list of the (length, firsts, inners, lasts, wholes) of the parts of the letters."""
        found = []
        for length in range(1, len(letters) + 1):
            kinds = self.kinds.get(letters[:length])
            if kinds is None:
                break
            firsts, inners, lasts, wholes = kinds
            found.append((length, firsts, inners, lasts, wholes))
        return found


def least_rest(choices, width, rests):
    """Return the shortest way to go on at a cell with these choices, given the ways for the cells behind it.

    It is a pair: the way on after a part that does not end, and the way on after a part that ends. A way is None
    or a tuple (number of parts, word, offset, length); the last three are its first part.
    """
    free = []
    for word, offset, length in choices:
        if length > len(rests):
            continue
        after_open, after_end = rests[len(rests) - length]
        rest = after_end if offset + length == width else after_open
        if rest is not None:
            free.append((rest[0] + 1, word, offset, length))
    # After a part that does not end only a part that begins can stand.
    begun = [way for way in free if way[2] == 0]
    return min(begun, default=None), min(free, default=None)


def least_rests(steps, width, closed):
    """Return the list of the shortest ways to cover the last 0, 1, 2 .. cells of a row."""
    rests = [(None if closed else NO_REST, NO_REST)]
    for choices in reversed(steps):
        rests.append(least_rest(choices, width, rests))
    return rests


def least_cover(steps, width, closed):
    """Return the shortest list of parts that covers a row with these choices at its cells, or None."""
    rests = least_rests(steps, width, closed)
    parts = []
    place = 0
    ended = not closed
    while place < len(steps):
        after_open, after_end = rests[len(steps) - place]
        way = after_end if ended else after_open
        if way is None:
            return None
        _, word, offset, length = way
        parts.append((place, word, offset, length))
        ended = offset + length == width
        place = place + length
    return parts


def least_row(pieces, text, closed):
    """Return a splitting of a text on a row with as few parts as possible, or None."""
    steps = [pieces.parts_of(text[place:place + pieces.span]) for place in range(len(text))]
    return least_cover(steps, pieces.span, closed)


def least_around(steps, width, start, word):
    """Return the shortest splitting of a ring in which this word stands whole at start, or None."""
    size = len(steps)
    around = steps + steps
    # A whole part both begins and ends, so the cells between its end and its beginning are a row that is not closed.
    others = least_cover(around[start + width:start + size], width, False)
    if others is None:
        return None
    parts = [(start, word, 0, width)]
    for place, other, offset, length in others:
        parts.append(((start + width + place) % size, other, offset, length))
    return sorted(parts)


def least_ring(pieces, text):
    """Return a splitting of a text on a ring with as few parts as possible, or None."""
    width = pieces.span
    size = len(text)
    if size < width:
        return None
    around = text + text
    steps = [pieces.parts_of(around[place:place + width]) for place in range(size)]
    found = []
    for start, choices in enumerate(steps):
        for word, _, length in choices:
            if length == width:
                found.append(least_around(steps, width, start, word))
    return min([parts for parts in found if parts is not None], key=len, default=None)
