"""What the document defines, written anew cell by cell, and slow: the tests compare the program with it."""

from itertools import permutations

KINDS = ("line", "window", "ring")


def cells_under(kind, size, width, place):
    """The cell of each letter of a stamping; None if it lies outside."""
    if kind == "ring":
        return [(place + at) % size for at in range(width)]
    return [place + at if 0 <= place + at < size else None for at in range(width)]


def fits(kind, size, words, word, place):
    most = 60 if kind == "ring" else 120
    if size < 1 or size > most or word < 0 or word >= len(words):
        return False
    width = len(words[0])
    if kind == "ring":
        return width <= size and place in range(size)
    # Far away no cell is touched, and no list of cells is needed to know it.
    if place < -width or place > size:
        return False
    under = cells_under(kind, size, width, place)
    if kind == "line":
        return None not in under
    return any(cell is not None for cell in under)


def stampings(kind, size, words):
    places = range(-len(words[0]), size + 1)
    return [(word, place) for word in range(len(words)) for place in places if fits(kind, size, words, word, place)]


def pressed(kind, strip, words, word, place):
    cells = list(strip)
    under = cells_under(kind, len(strip), len(words[word]), place)
    for letter, cell in zip(words[word], under):
        if cell is not None:
            cells[cell] = letter
    return "".join(cells)


def ended(kind, size, words, history):
    strip = "." * size
    for word, place in history:
        strip = pressed(kind, strip, words, word, place)
    return strip


def reachable(kind, size, words):
    """The strips that histories leave, with the least number of stampings for each."""
    least = {"." * size: 0}
    front = list(least)
    every = stampings(kind, size, words)
    while front:
        behind = []
        for strip in front:
            for word, place in every:
                after = pressed(kind, strip, words, word, place)
                if after not in least:
                    least[after] = least[strip] + 1
                    behind.append(after)
        front = behind
    return least


def seen(kind, size, words, history):
    """The cells that show each stamping in the end."""
    top = [None] * size
    for index, (word, place) in enumerate(history):
        for cell in cells_under(kind, size, len(words[word]), place):
            if cell is not None:
                top[cell] = index
    return [sorted(cell for cell in range(size) if top[cell] == index) for index in range(len(history))]


def part_cells(kind, size, part):
    place, _, _, length = part
    if kind == "ring":
        return [(place + at) % size for at in range(length)]
    return [place + at for at in range(length)]


def is_part(kind, size, words, part):
    if type(part) is not tuple or len(part) != 4 or any(type(number) is not int for number in part):
        return False
    place, word, offset, length = part
    width = len(words[0])
    if place not in range(size) or word not in range(len(words)) or offset not in range(width):
        return False
    return length >= 1 and offset + length <= width and (kind != "ring" or length <= size)


def begins(part):
    return part[2] == 0


def ends(part, words):
    return part[2] + part[3] == len(words[0])


def seams(kind, parts):
    """The pairs of indices of the parts on the left and on the right of a seam."""
    pairs = [(index, index + 1) for index in range(len(parts) - 1)]
    if kind == "ring":
        pairs.append((len(parts) - 1, 0))
    return pairs


def is_splitting(kind, words, text, parts):
    size = len(text)
    if type(parts) is not list or not parts or not all(is_part(kind, size, words, part) for part in parts):
        return False
    if any(one >= other for one, other in zip(parts, parts[1:])):
        return False
    covered = [cell for part in parts for cell in part_cells(kind, size, part)]
    if sorted(covered) != list(range(size)):
        return False
    for part in parts:
        letters = words[part[1]][part[2]:part[2] + part[3]]
        if [text[cell] for cell in part_cells(kind, size, part)] != list(letters):
            return False
    if not all(ends(parts[left], words) or begins(parts[right]) for left, right in seams(kind, parts)):
        return False
    if kind == "line":
        return begins(parts[0]) and ends(parts[-1], words)
    return kind == "window" or any(begins(part) and ends(part, words) for part in parts)


def coverings(kind, size, words):
    """All lists of parts that cover each cell of a strip once, whatever they show."""
    width = len(words[0])

    def grown(parts, at, stop):
        if at == stop:
            yield list(parts)
        for length in range(1, min(width, stop - at) + 1):
            for word in range(len(words)):
                for offset in range(width - length + 1):
                    yield from grown(parts + [(at, word, offset, length)], at + length, stop)

    starts = range(size) if kind == "ring" else [0]
    for start in starts:
        for parts in grown([], start, start + size):
            # On a ring a covering is named from its part with the least place on.
            if parts[-1][0] < size:
                yield parts


def constraints(kind, words, parts):
    """The pairs (i, j) of indices by R3: i comes before j."""
    pairs = []
    for left, right in seams(kind, parts):
        if not ends(parts[left], words):
            pairs.append((left, right))
        if not begins(parts[right]):
            pairs.append((right, left))
    return pairs


def good_orders(kind, words, parts):
    pairs = constraints(kind, words, parts)
    for order in permutations(range(len(parts))):
        if all(order.index(one) < order.index(other) for one, other in pairs):
            yield list(order)


def good_order(kind, words, parts):
    """One order that R3 allows, for any number of parts."""
    pairs = constraints(kind, words, parts)
    order = []
    while len(order) < len(parts):
        free = [
            index for index in range(len(parts))
            if index not in order and all(one in order for one, other in pairs if other == index)
        ]
        order.append(free[-1])
    return order


def peels(kind, words, text):
    """Whether a text can be shown: take off, from the last one back, what can be a stamping."""
    cells = list(text)
    every = stampings(kind, len(text), words)
    changed = True
    while changed:
        changed = False
        for word, place in every:
            under = cells_under(kind, len(text), len(words[word]), place)
            pairs = [(letter, cell) for letter, cell in zip(words[word], under) if cell is not None]
            if all(cells[cell] in (letter, "*") for letter, cell in pairs):
                if any(cells[cell] != "*" for _, cell in pairs):
                    changed = True
                for _, cell in pairs:
                    cells[cell] = "*"
    return all(cell == "*" for cell in cells)


def fewest_row(kind, words, text):
    """The least number of parts for a line or a window, letter by letter."""
    width = len(words[0])
    places = [(word, offset) for word in range(len(words)) for offset in range(width)]
    now = {(w, o): 1 for w, o in places if words[w][o] == text[0] and (kind == "window" or o == 0)}
    for letter in text[1:]:
        after = {}
        for (w, o), many in now.items():
            for w2, o2 in places:
                if words[w2][o2] != letter:
                    continue
                if w2 == w and o2 == o + 1:
                    after[w2, o2] = min(many, after.get((w2, o2), many))
                if o + 1 == width or o2 == 0:
                    after[w2, o2] = min(many + 1, after.get((w2, o2), many + 1))
        now = after
    finals = [many for (_, o), many in now.items() if kind == "window" or o + 1 == width]
    return min(finals, default=None)


def fewest_ring(words, text):
    """The least number of parts for a ring: each first part in turn, with whether a whole part was met."""
    size = len(text)
    found = []
    for start in range(min(size, len(words[0]))):
        turned = text[start:] + text[:start]
        for word in range(len(words)):
            for offset in range(len(words[0])):
                found.append(fewest_turned(words, turned, word, offset))
    return min([many for many in found if many is not None], default=None)


def fewest_turned(words, text, first_word, first_offset):
    """The least number of parts for a ring with a part from cell 0 on that shows this letter first."""
    width = len(words[0])
    places = [(word, offset) for word in range(len(words)) for offset in range(width)]
    if words[first_word][first_offset] != text[0]:
        return None
    # A state: the letter that is shown, whether its part began, whether a whole part was met.
    now = {(first_word, first_offset, first_offset == 0, first_offset == 0 and width == 1): 1}
    for letter in text[1:]:
        after = {}
        for (w, o, began, whole), many in now.items():
            for w2, o2 in places:
                if words[w2][o2] != letter:
                    continue
                if w2 == w and o2 == o + 1:
                    state = (w2, o2, began, whole or (began and o2 + 1 == width))
                    after[state] = min(many, after.get(state, many))
                if o + 1 == width or o2 == 0:
                    state = (w2, o2, o2 == 0, whole or (o2 == 0 and width == 1))
                    after[state] = min(many + 1, after.get(state, many + 1))
        now = after
    finals = [many for (_, o, _, whole), many in now.items() if whole and (o + 1 == width or first_offset == 0)]
    return min(finals, default=None)


def fewest(kind, words, text):
    return fewest_ring(words, text) if kind == "ring" else fewest_row(kind, words, text)
