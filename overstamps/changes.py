"""Changes: printing a text over an old strip of the same size.

What is printed leaves some cells as they are: these are kept, and between them and at the ends of a line the parts
that are seen of the stampings form rows. Beside a cell that is kept a part begins or ends.
"""

from overstamps.bands import Line, Ring
from overstamps.errors import InvalidText, NotPossible
from overstamps.parts import KEPT, TOO_MANY, begins, fewest_around, fewest_rests, fewest_row
from overstamps.parts import least_ring, least_row, reaches_of


def check_change(band, old, new):
    """Raise an error unless these are a strip of the band and a text of the same size."""
    band.check_strip(old)
    band.check_text(new)
    if len(old) != len(new):
        raise InvalidText("the text has not the size of the old strip")


def keepable(old, new):
    """Return for each cell whether its old letter is the new one, so that the cell may be kept."""
    return [before == after for before, after in zip(old, new)]


def behind(cells, place):
    """Return the cells of a ring behind one of them, up to the one before it."""
    return cells[place + 1:] + cells[:place]


def reaches_behind(pieces, reaches, new, place):
    """Return the reaches of the cells of a ring behind one that is kept, up to the one before it."""
    cells = behind(new, place)
    # No part at the last cells goes on over the one that is kept.
    cut = max(len(cells) - pieces.span + 1, 0)
    return behind(reaches, place)[:cut] + reaches_of(pieces, cells[cut:], len(cells) - cut)


def best_on_ring(pieces, new, kept):
    """Return with how few parts a text can be printed on a ring, and a cell that can be kept with so few parts.

    The number is TOO_MANY if no parts do it; the cell is None if all cells are printed.
    """
    best, _ = fewest_around(pieces, new)
    cell = None
    left = list(kept)
    reaches = reaches_of(pieces, new + new, len(new))
    for place in range(len(new)):
        # Fewer parts than the best ones must be enough for the cells that are printed.
        if left[place] and (best - 1) * pieces.span >= left.count(False):
            row = reaches_behind(pieces, reaches, new, place)
            many = fewest_rests(row, behind(left, place), pieces.span, True)[KEPT][0]
            if many < best:
                best = many
                cell = place
            # What keeps this cell is known now.
            left[place] = False
    return best, cell


def fewest_change(band, old, new):
    """Return the least number of stampings that turn a strip into a text, or None."""
    check_change(band, old, new)
    kept = keepable(old, new)
    if band.NAME != Ring.NAME:
        return fewest_row(band.pieces, new, kept, band.NAME == Line.NAME)
    best, _ = best_on_ring(band.pieces, new, kept)
    return best if best < TOO_MANY else None


def can_change(band, old, new):
    """Tell whether some stampings turn a strip into a text."""
    return fewest_change(band, old, new) is not None


def in_order(parts):
    """Return the parts of rows, given from left to right, in an order in which their stampings show them.

    A part that does not begin comes before the one on its left. A part that begins comes behind all those on its left,
    so also behind one that does not end.
    """
    order = []
    beneath = []
    for part in parts:
        if begins(part):
            order.extend(beneath)
            beneath = []
        beneath = [part] + beneath
    return order + beneath


def ring_in_order(parts, width):
    """Return the parts of a splitting of a ring in an order in which their stampings show them."""
    # A whole part may come last of all, and the other ones are a row from its end to its beginning.
    last = [part[3] for part in parts].index(width)
    return in_order(parts[last + 1:] + parts[:last]) + [parts[last]]


def parts_on_ring(pieces, new, kept):
    """Return the parts of a shortest change on a ring in an order in which their stampings show them, or None."""
    best, cell = best_on_ring(pieces, new, kept)
    if best == TOO_MANY:
        return None
    if cell is None:
        return ring_in_order(least_ring(pieces, new), pieces.span)
    parts = least_row(pieces, behind(new, cell), behind(kept, cell), True)
    return in_order([(cell + 1 + place, word, offset, length) for place, word, offset, length in parts])


def parts_on_row(pieces, new, kept, closed):
    """Return the parts of a shortest change on a row in an order in which their stampings show them, or None."""
    parts = least_row(pieces, new, kept, closed)
    return None if parts is None else in_order(parts)


def change(band, old, new):
    """Return as few stampings as possible that turn a strip into a text, in an order that does it."""
    check_change(band, old, new)
    kept = keepable(old, new)
    if band.NAME == Ring.NAME:
        parts = parts_on_ring(band.pieces, new, kept)
    else:
        parts = parts_on_row(band.pieces, new, kept, band.NAME == Line.NAME)
    if parts is None:
        raise NotPossible("no stampings turn the strip into this text")
    return [band.stamping_of(part, len(new)) for part in parts]
