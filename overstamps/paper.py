"""Paper: a strip of a band that takes stampings, with undo and marks."""

from overstamps.errors import InvalidNumber, InvalidStamping, NothingToUndo
from overstamps.parts import is_integer


class Paper:
    """A strip that was empty at first, and the stampings on it."""

    def __init__(self, band, size):
        if not is_integer(size) or not 1 <= size <= band.CELLS:
            raise InvalidNumber("no strip of this band has so many cells")
        self._band = band
        self._size = size
        self._pressed = []
        # The strips before, between and after the stampings that hold.
        self._strips = ["." * size]
        # For each mark the number of the stampings that held when it was made.
        self._marks = []

    @property
    def shown(self):
        """The strip."""
        return self._strips[-1]

    @property
    def stampings(self):
        """The stampings that hold, as a new list."""
        return list(self._pressed)

    def __len__(self):
        return len(self._pressed)

    def press(self, word, place):
        """Press a stamping on the strip."""
        if not self._band.fits(self._size, word, place):
            raise InvalidStamping("there is no such stamping on this strip")
        self._strips.append(self._band.stamped(self.shown, word, place))
        self._pressed.append((word, place))

    def press_all(self, *stampings):
        """Press stampings one after another, or none of them if one is invalid."""
        for stamping in stampings:
            if not self._band.is_stamping(self._size, stamping):
                raise InvalidStamping("one of these is no stamping on this strip")
        for word, place in stampings:
            self.press(word, place)

    def seen(self, index):
        """Return the ascending list of the cells that show the stamping with this index."""
        if not 0 <= index < len(self._pressed):
            raise InvalidNumber("no stamping has this index")
        return [cell for cell, top in enumerate(self._tops()) if top == index]

    def hidden(self):
        """Return the ascending list of the indices of the stampings of which nothing is seen."""
        tops = self._tops()
        return [index for index in range(len(self._pressed)) if index not in tops]

    def layers(self):
        """Return for each cell how many stampings cover it."""
        many = [0] * self._size
        for _, place in self._pressed:
            for cell in self._band.covered(self._size, place):
                many[cell] += 1
        return many

    def undo(self):
        """Undo the last press."""
        if len(self._pressed) == 0:
            raise NothingToUndo("no stamping is left")
        left = len(self._pressed) - 1
        self._keep(left)
        self._marks = [many for many in self._marks if many <= left]

    def mark(self):
        """Make a mark, and return its number."""
        self._marks.append(len(self._pressed))
        return len(self._marks) - 1

    def undo_to(self, index):
        """Undo the calls behind a mark, which stays."""
        if not 0 <= index < len(self._marks):
            raise InvalidNumber("no mark has this number")
        self._keep(self._marks[index])
        self._marks = self._marks[:index + 1]

    def twin(self):
        """Return an independent copy."""
        other = Paper(self._band, self._size)
        other._pressed = list(self._pressed)
        other._strips = list(self._strips)
        other._marks = list(self._marks)
        return other

    def _keep(self, many):
        """Drop the stampings behind the first ones."""
        self._pressed = self._pressed[:many]
        self._strips = self._strips[:many + 1]

    def _tops(self):
        """Return for each cell the index of the stamping that it shows, None if it is empty."""
        tops = [None] * self._size
        for index, (_, place) in enumerate(self._pressed):
            for cell in self._band.covered(self._size, place):
                tops[cell] = index
        return tops
