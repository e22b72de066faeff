"""Unknown: what lines and windows can show in patterns, texts with unreadable cells.

The letters of the words are spots, told as bits of an integer: the letter of a word at an offset as the bit with the
number word * width + offset. A set of spots is the sum of its bits.
"""

from overstamps.bands import Line
from overstamps.errors import InvalidText, NotPossible
from overstamps.stamps import MOST_CELLS, is_lowercase
from overstamps.tables import UNREADABLE, first_entries, last_bounds, next_entries


class Spots:
    """The spots of a band: which ones can be seen at the ends of a strip, and which ones beside one another."""

    def __init__(self, band):
        pieces = band.pieces
        self.signs = "".join(band.stamps.words)
        self.every = (1 << len(self.signs)) - 1
        self.begun = sum([1 << at for at in range(0, len(self.signs), pieces.span)])
        self.ended = self.begun << (pieces.span - 1)
        closed = band.NAME == Line.NAME
        self.first = self.begun if closed else self.every
        self.last = self.ended if closed else self.every

    def with_sign(self, sign):
        """Return the spots that agree with a sign of a pattern."""
        if sign == UNREADABLE:
            return self.every
        return sum([1 << at for at, letter in enumerate(self.signs) if letter == sign])

    def letters(self, some):
        """Return the ascending list of the letters of some spots."""
        return sorted({letter for at, letter in enumerate(self.signs) if some >> at & 1})

    def behind(self, some):
        """Return the spots that can be seen at the cell behind one that shows one of these."""
        if some & self.ended:
            return self.every
        return some << 1 | self.begun if some else 0

    def before(self, some):
        """Return the spots that can be seen at the cell before one that shows one of these."""
        if some & self.begun:
            return self.every
        return some >> 1 | self.ended if some else 0


def check_pattern(text):
    """Raise InvalidText unless this is a pattern."""
    if not isinstance(text, str) or not 1 <= len(text) <= MOST_CELLS:
        raise InvalidText("a pattern has 1 to 120 cells")
    if not is_lowercase(text.replace(UNREADABLE, "")):
        raise InvalidText("a pattern has lowercase letters and question marks")


def spots_in_texts(spots, text):
    """Return for each cell of a pattern the spots that it has in splittings of texts that agree with the pattern."""
    agreeing = [spots.with_sign(sign) for sign in text]
    reached = [agreeing[0] & spots.first]
    for some in agreeing[1:]:
        reached.append(some & spots.behind(reached[-1]))
    left = reached[-1] & spots.last
    found = [left]
    for some in reversed(reached[:-1]):
        left = some & spots.before(left)
        found.append(left)
    return list(reversed(found))


def can_fill(band, text):
    """Tell whether letters can be put for the unreadable cells so that the band can show the text."""
    check_pattern(text)
    return spots_in_texts(Spots(band), text)[0] != 0


def least_fill(band, text):
    """Return the least text that agrees with a pattern and that the band can show."""
    check_pattern(text)
    spots = Spots(band)
    cells = spots_in_texts(spots, text)
    if cells[0] == 0:
        raise NotPossible("the band can show no such text")
    filled = ""
    some = spots.every
    for possible in cells:
        letter = spots.letters(some & possible)[0]
        filled = filled + letter
        some = spots.behind(some & possible & spots.with_sign(letter))
    return filled


def fewest_fill(band, text):
    """Return the least number of stampings over all texts that agree with a pattern, or None."""
    check_pattern(text)
    entries = first_entries(band, text[0])
    for sign in text[1:]:
        entries = next_entries(band, entries, sign)
    return min(last_bounds(band, entries), default=None)


def possible_letters(band, text):
    """Return for each unreadable cell the letters that it has in texts that the band can show, as a string."""
    check_pattern(text)
    spots = Spots(band)
    cells = spots_in_texts(spots, text)
    return ["".join(spots.letters(some)) for sign, some in zip(text, cells) if sign == UNREADABLE]
