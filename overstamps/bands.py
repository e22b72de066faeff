"""Bands: what can be printed on a line, on a window and on a ring."""

from overstamps.errors import InvalidName, InvalidNumber, InvalidParts, InvalidStamping
from overstamps.errors import InvalidStrip, InvalidText, NotPossible
from overstamps.parts import Pieces, fewest_ring, fewest_row, is_integer, least_ring, least_row
from overstamps.parts import splits_ring, splits_row
from overstamps.stamps import is_strip, is_text, over


class Band:
    """What lines, windows and rings have in common; it tells nothing about texts by itself.

    Each subclass has fits and stamped, and besides: covered(size, place), the ascending list of the cells under a
    stamping; _fewest(text), the least number of parts or None; _least(text), a splitting with so few or None;
    _splits(text, thing), whether any object is a splitting; _cell(place, size), where a stamping begins.
    """

    NAME = ""
    CELLS = 120
    STAMPINGS = 200

    def __init__(self, stamps):
        self._stamps = stamps
        self.pieces = Pieces(stamps.words)

    @classmethod
    def named(cls, name, stamps):
        """Make the band of this name, whichever class this is called on."""
        if name == Line.NAME:
            return Line(stamps)
        if name == Window.NAME:
            return Window(stamps)
        if name == Ring.NAME:
            return Ring(stamps)
        raise InvalidName("a band is called line, window or ring")

    @property
    def stamps(self):
        """The stamps of the band."""
        return self._stamps

    def __contains__(self, text):
        return is_text(text, self.CELLS) and self._fewest(text) is not None

    def fewest(self, text):
        """Return the least number of stampings for a text, or None."""
        self.check_text(text)
        return self._fewest(text)

    def splitting(self, text):
        """Return a splitting of a text with as few parts as possible."""
        self.check_text(text)
        parts = self._least(text)
        if parts is None:
            raise NotPossible("the band cannot show this text")
        return parts

    def is_splitting(self, text, thing):
        """Tell whether any object is a splitting of a text."""
        self.check_text(text)
        return self._splits(text, thing)

    def stampings_of(self, text, parts):
        """Return the stampings of the parts of a splitting, in the order of the parts."""
        if not self.is_splitting(text, parts):
            raise InvalidParts("the parts are no splitting of the text")
        return [self.stamping_of(part, len(text)) for part in parts]

    def replay(self, size, stampings):
        """Yield the strips before, between and after the stampings on an empty strip."""
        if not 1 <= size <= self.CELLS:
            raise InvalidNumber("no strip of this band has so many cells")
        if not self._are_stampings(size, stampings):
            raise InvalidStamping("these are no stampings on such a strip, or too many")
        # A copy, so that the run does not change if its caller changes the list before the last step.
        pressed = list(stampings)
        strip = "." * size
        yield strip
        for word, place in pressed:
            strip = self.stamped(strip, word, place)
            yield strip

    def check_text(self, text):
        """Raise InvalidText unless this is a text of the band."""
        if not is_text(text, self.CELLS):
            raise InvalidText("this is no text of the band")

    def check_strip(self, strip):
        """Raise InvalidStrip unless this is a strip of the band."""
        if not is_strip(strip, self.CELLS):
            raise InvalidStrip("this is no strip of the band")

    def is_stamping(self, size, thing):
        """Tell whether any object is a stamping on a strip of this size."""
        if not isinstance(thing, tuple) or len(thing) != 2:
            return False
        word, place = thing
        return is_integer(word) and is_integer(place) and self.fits(size, word, place)

    def stamping_of(self, part, size):
        """Return the stamping of which a part is seen on a strip of this size."""
        place, word, offset, _ = part
        return word, self._cell(place - offset, size)

    def _check_stamping(self, strip, word, place):
        """Raise an error unless this is a strip of the band and a stamping on it."""
        self.check_strip(strip)
        if not self.fits(len(strip), word, place):
            raise InvalidStamping("there is no such stamping on this strip")

    def _knows(self, size, word):
        """Tell whether a strip can have this size, and a word this index."""
        return 1 <= size <= self.CELLS and 0 <= word < len(self._stamps)

    def _are_stampings(self, size, thing):
        """Tell whether any object is a list of stampings on a strip of this size, and not too long."""
        if not isinstance(thing, list) or len(thing) > self.STAMPINGS:
            return False
        return all(self.is_stamping(size, stamping) for stamping in thing)


class Line(Band):
    """A strip on which each stamping lies wholly."""

    NAME = "line"

    def fits(self, size, word, place):
        """Tell whether there is such a stamping on a strip of this size."""
        return self._knows(size, word) and 0 <= place <= size - self._stamps.width

    def stamped(self, strip, word, place):
        """Return the strip after a stamping."""
        return self._stamps(strip, word, place)

    def covered(self, size, place):
        """Return the ascending list of the cells of a strip of this size that a stamping covers."""
        return list(range(place, place + self._stamps.width))

    def _fewest(self, text):
        return fewest_row(self.pieces, text, [False] * len(text), True)

    def _least(self, text):
        return least_row(self.pieces, text, [False] * len(text), True)

    def _splits(self, text, thing):
        return splits_row(self._stamps.words, text, thing, True)

    def _cell(self, place, size):
        return place


class Window(Band):
    """A strip cut out of a longer one: of each stamping at least one cell is seen."""

    NAME = "window"

    def fits(self, size, word, place):
        """Tell whether there is such a stamping on a strip of this size."""
        return self._knows(size, word) and -self._stamps.width < place < size

    def stamped(self, strip, word, place):
        """Return the strip after a stamping."""
        self._check_stamping(strip, word, place)
        letters = self._stamps.words[word]
        width = len(letters)
        edge = "." * width
        longer = over(edge + strip + edge, letters, place + width)
        return longer[width:width + len(strip)]

    def covered(self, size, place):
        """Return the ascending list of the cells of a strip of this size that a stamping covers."""
        return list(range(max(place, 0), min(place + self._stamps.width, size)))

    def _fewest(self, text):
        return fewest_row(self.pieces, text, [False] * len(text), False)

    def _least(self, text):
        return least_row(self.pieces, text, [False] * len(text), False)

    def _splits(self, text, thing):
        return splits_row(self._stamps.words, text, thing, False)

    def _cell(self, place, size):
        return place


class Ring(Band):
    """A strip whose first cell follows its last one."""

    NAME = "ring"
    CELLS = 60

    def fits(self, size, word, place):
        """Tell whether there is such a stamping on a strip of this size."""
        return self._knows(size, word) and self._stamps.width <= size and 0 <= place < size

    def stamped(self, strip, word, place):
        """Return the strip after a stamping."""
        self._check_stamping(strip, word, place)
        turned = over(strip[place:] + strip[:place], self._stamps.words[word], 0)
        back = len(strip) - place
        return turned[back:] + turned[:back]

    def covered(self, size, place):
        """Return the ascending list of the cells of a strip of this size that a stamping covers."""
        return sorted([(place + at) % size for at in range(self._stamps.width)])

    def _fewest(self, text):
        return fewest_ring(self.pieces, text)

    def _least(self, text):
        return least_ring(self.pieces, text)

    def _splits(self, text, thing):
        return splits_ring(self._stamps.words, text, thing)

    def _cell(self, place, size):
        return place % size
