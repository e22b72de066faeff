"""Codes: stamps, stampings and parts written as words between single blanks, and read again."""

from overstamps.errors import InvalidCode
from overstamps.stamps import MOST_CELLS, WIDEST, Stamps, are_stamps

NO_STAMPINGS = "-"
MOST_STAMPINGS = 200
MOST_DIGITS = 9


def number_of(word, least, most):
    """Return the number from least to most that a word writes, or None."""
    digits = word[1:] if word.startswith("-") else word
    if not 1 <= len(digits) <= MOST_DIGITS or not all("0" <= sign <= "9" for sign in digits):
        return None
    number = int(word)
    # A number is written in one way: leading zeros and the sign of zero are not.
    if str(number) != word or not least <= number <= most:
        return None
    return number


def stamping_written(word):
    """Return the stamping that a word of a code writes, or None."""
    index, _, place = word.partition("@")
    stamping = (number_of(index, 0, Stamps.MOST - 1), number_of(place, 1 - WIDEST, MOST_CELLS - 1))
    return None if None in stamping else stamping


def part_written(word):
    """Return the part that a word of a code writes, or None."""
    place, _, letters = word.partition(":")
    index, _, piece = letters.partition("+")
    offset, _, length = piece.partition("*")
    part = (
        number_of(place, 0, MOST_CELLS - 1), number_of(index, 0, Stamps.MOST - 1),
        number_of(offset, 0, WIDEST - 1), number_of(length, 1, WIDEST),
    )
    if None in part or part[2] + part[3] > WIDEST:
        return None
    return part


def write_stamps(stamps):
    """Return the code of stamps."""
    return " ".join(stamps.words)


def read_stamps(code):
    """Return the stamps that a code writes."""
    words = []
    for at, word in enumerate(code.split(" ")):
        words = words + [word]
        if not are_stamps(words):
            raise InvalidCode(at)
    return Stamps.of(words)


def write_stampings(stampings):
    """Return the code of a list of stampings."""
    if len(stampings) == 0:
        return NO_STAMPINGS
    return " ".join([f"{word}@{place}" for word, place in stampings])


def read_stampings(code):
    """Return the list of the stampings that a code writes."""
    words = code.split(" ")
    stampings = []
    if words[0] == NO_STAMPINGS:
        if len(words) > 1:
            raise InvalidCode(1)
        return stampings
    for at, word in enumerate(words):
        stamping = stamping_written(word)
        if stamping is None or at >= MOST_STAMPINGS:
            raise InvalidCode(at)
        stampings.append(stamping)
    return stampings


def write_parts(parts):
    """Return the code of a list of parts."""
    return " ".join([f"{place}:{word}+{offset}*{length}" for place, word, offset, length in parts])


def read_parts(code):
    """Return the list of the parts that a code writes."""
    parts = []
    before = -1
    for at, word in enumerate(code.split(" ")):
        part = part_written(word)
        if part is None or part[0] <= before:
            raise InvalidCode(at)
        parts.append(part)
        before = part[0]
    return parts
