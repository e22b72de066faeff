"""A second way to work out what the document says of texts that are printed over old strips, for the tests."""

import random

from tests import model, ways

NEVER = 10 ** 6


def reached(kind, strip, words):
    """The strips to which stampings lead from a strip, with the least number of stampings for each."""
    least = {strip: 0}
    front = [strip]
    every = model.stampings(kind, len(strip), words)
    while front:
        behind = []
        for one in front:
            for word, place in every:
                after = model.pressed(kind, one, words, word, place)
                if after not in least:
                    least[after] = least[one] + 1
                    behind.append(after)
        front = behind
    return least


def pressed_on(kind, strip, words, stampings):
    """The strip after stampings, cell by cell; each of them must fit."""
    for word, place in stampings:
        assert model.fits(kind, len(strip), words, word, place), (kind, strip, word, place)
        strip = model.pressed(kind, strip, words, word, place)
    return strip


def fewest_on_row(words, old, new, closed):
    """The least number of parts on a row, part by part from its end, with old cells between."""
    width = len(words[0])
    size = len(new)
    # For each cell and what stands before it: a part that does not end, one that ends, an old cell.
    rests = {(size, "loose"): NEVER if closed else 0, (size, "ended"): 0, (size, "old"): 0}
    for at in reversed(range(size)):
        for before in ("loose", "ended", "old"):
            found = [NEVER]
            if old[at] == new[at] and before != "loose":
                found.append(rests[at + 1, "old"])
            for _, offset, length in ways.agreeing(words, new, at, size):
                if offset == 0 or before == "ended":
                    behind = "ended" if offset + length == width else "loose"
                    found.append(1 + rests[at + length, behind])
            rests[at, before] = min(found)
    return rests[0, "old" if closed else "ended"]


def fewest_on_ring(words, old, new):
    """The least number of parts on a ring: from each old cell on, and around each whole part."""
    width = len(words[0])
    size = len(new)
    found = [NEVER]
    for at in range(size):
        if old[at] == new[at]:
            found.append(fewest_on_row(words, old[at + 1:] + old[:at], new[at + 1:] + new[:at], True))
        turned = new[at:] + new[:at]
        if turned[:width] in words:
            found.append(1 + fewest_on_row(words, "." * (size - width), turned[width:], False))
    return min(found)


def fewest(kind, words, old, new):
    """The least number of stampings that turn an old strip into a new text, or None."""
    if kind == "ring":
        many = fewest_on_ring(words, old, new)
    else:
        many = fewest_on_row(words, old, new, kind == "line")
    return many if many < NEVER else None


def printed_over(kind, words, old, most, chance):
    """Stampings on an old strip that leave no empty cell, if possible, and what they leave."""
    size = len(old)
    every = model.stampings(kind, size, words)
    history = [chance.choice(every) for _ in range(chance.randint(0, most))]
    strip = pressed_on(kind, old, words, history)
    while "." in strip:
        empty = chance.choice([cell for cell in range(size) if strip[cell] == "."])
        history.append(chance.choice(stampings_over(kind, size, words, empty)))
        strip = pressed_on(kind, strip, words, history[-1:])
    return history, strip


def stampings_over(kind, size, words, cell):
    """All stampings that cover a cell."""
    places = [place % size if kind == "ring" else place for place in range(cell - len(words[0]) + 1, cell + 1)]
    near = [(word, place) for word in range(len(words)) for place in places]
    return [(word, place) for word, place in near if model.fits(kind, size, words, word, place)]


def drawn_strip(words, size, chance):
    """An old strip: empty, printed on a window, or printed with other signs in it."""
    strip = "." * size
    if chance.randrange(4) == 0:
        return strip
    every = model.stampings("window", size, words)
    strip = pressed_on("window", strip, words, [chance.choice(every) for _ in range(chance.randint(1, size))])
    signs = list(strip)
    for _ in range(chance.choice([0, 0, 1, 4, size // 2])):
        signs[chance.randrange(size)] = chance.choice("z.q" + "".join(words))
    return "".join(signs)


def renamed(text, names):
    """A text, a strip or a word with other letters."""
    return "".join(names.get(sign, sign) for sign in text)


def shuffled_names(chance):
    letters = "abcdefghijklmnopqrstuvwxyz"
    return dict(zip(letters, random.Random(chance.random()).sample(letters, len(letters))))
