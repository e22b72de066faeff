"""Stamps: different words of one width, and what they do to a strip."""

from overstamps.errors import InvalidStamping, InvalidStamps, InvalidStrip

WIDEST = 8
MOST_LETTERS = 36
MOST_CELLS = 120


def is_lowercase(text):
    """Tell whether all signs of a string are lowercase letters."""
    return all("a" <= sign <= "z" for sign in text)


def is_text(thing, most):
    """Tell whether any object is a text of at most so many cells."""
    return isinstance(thing, str) and 1 <= len(thing) <= most and is_lowercase(thing)


def is_strip(thing, most):
    """Tell whether any object is a strip of at most so many cells."""
    return isinstance(thing, str) and 1 <= len(thing) <= most and is_lowercase(thing.replace(".", ""))


def are_stamps(words):
    """Tell whether a tuple of any objects has the words of stamps."""
    if not 1 <= len(words) <= Stamps.MOST:
        return False
    if not all(is_text(word, WIDEST) for word in words):
        return False
    width = len(words[0])
    if not all(len(word) == width for word in words):
        return False
    return len(set(words)) == len(words) and width * len(words) <= MOST_LETTERS


def over(strip, letters, place):
    """Return the strip with these letters from place on; all of them lie on the strip."""
    return strip[:place] + letters + strip[place + len(letters):]


class Stamps:
    """One to six different words of the same width; a word is called by its index."""

    MOST = 6

    def __init__(self, *words):
        if not are_stamps(words):
            raise InvalidStamps("stamps are 1 to 6 different words of one width")
        self._words = list(words)

    @classmethod
    def of(cls, words):
        """Make stamps of a list of words."""
        if not isinstance(words, list):
            raise InvalidStamps("the words of stamps are given as a list")
        return cls(*words)

    @property
    def words(self):
        """The words, as a new list."""
        return list(self._words)

    @property
    def width(self):
        """The number of letters of each word."""
        return len(self._words[0])

    def __len__(self):
        return len(self._words)

    def __add__(self, other):
        if not isinstance(other, Stamps):
            return NotImplemented
        added = [word for word in other.words if word not in self._words]
        words = self.words + added
        return Stamps(*words)

    def __call__(self, strip, word, place):
        """Return the strip after a stamping on a line."""
        if not is_strip(strip, MOST_CELLS):
            raise InvalidStrip("a strip has 1 to 120 lowercase letters and dots")
        if not 0 <= word < len(self._words):
            raise InvalidStamping("no word has this index")
        if not 0 <= place <= len(strip) - self.width:
            raise InvalidStamping("a stamping on a line lies wholly on the strip")
        return over(strip, self._words[word], place)
