"""Tables: certificates for the least number of parts on lines and windows."""

from overstamps.bands import Line
from overstamps.parts import is_integer

UNREADABLE = "?"


def agreeing(words, sign):
    """Return the ascending list of the (word, offset) whose letters agree with a sign of a text or a pattern."""
    return [
        (word, offset)
        for word, stamp in enumerate(words)
        for offset, letter in enumerate(stamp)
        if letter == sign or sign == UNREADABLE
    ]


def first_entries(band, sign):
    """Return the entries that the first cell must have, with their greatest bounds."""
    closed = band.NAME == Line.NAME
    return [(word, offset, 1) for word, offset in agreeing(band.stamps.words, sign) if offset == 0 or not closed]


def next_entries(band, entries, sign):
    """Return the entries that a cell must have behind one with these entries, with their greatest bounds."""
    width = band.stamps.width
    bounds = {(word, offset + 1): bound for word, offset, bound in entries}
    behind_any = min([bound + 1 for word, offset, bound in entries], default=None)
    behind_end = min([bound + 1 for word, offset, bound in entries if offset + 1 == width], default=None)
    found = []
    for word, offset in agreeing(band.stamps.words, sign):
        behind_seam = behind_any if offset == 0 else behind_end
        bound = bounds.get((word, offset), behind_seam)
        if behind_seam is not None and behind_seam < bound:
            bound = behind_seam
        if bound is not None:
            found.append((word, offset, bound))
    return found


def last_bounds(band, entries):
    """Return the bounds of those entries of the last cell that are allowed at the end."""
    width = band.stamps.width
    closed = band.NAME == Line.NAME
    return [bound for word, offset, bound in entries if offset + 1 == width or not closed]


def table_of(band, text):
    """Return the table in which each bound is the least number of parts up to its cell."""
    band.check_text(text)
    entries = first_entries(band, text[0])
    table = [entries]
    for letter in text[1:]:
        entries = next_entries(band, entries, letter)
        table.append(entries)
    return table


def is_entry(words, letter, thing):
    """Tell whether any object is an entry for a cell with this letter."""
    if not isinstance(thing, tuple) or len(thing) != 3:
        return False
    word, offset, bound = thing
    if not is_integer(word) or not is_integer(offset) or not is_integer(bound):
        return False
    if not 0 <= word < len(words) or not 0 <= offset < len(words[word]):
        return False
    return words[word][offset] == letter


def are_entries(words, letter, thing):
    """Tell whether any object is an ascending list of entries for a cell, with no word and offset in it twice."""
    if not isinstance(thing, list) or not all(is_entry(words, letter, entry) for entry in thing):
        return False
    for one, other in zip(thing, thing[1:]):
        if one[:2] >= other[:2]:
            return False
    return True


def is_table(words, text, thing):
    """Tell whether any object is a table for a text."""
    if not isinstance(thing, list) or len(thing) != len(text):
        return False
    for letter, entries in zip(text, thing):
        if not are_entries(words, letter, entries):
            return False
    return True


def has_all(entries, needed):
    """Tell whether each entry that is needed is among the entries, with no greater bound."""
    bounds = {(word, offset): bound for word, offset, bound in entries}
    for word, offset, bound in needed:
        if (word, offset) not in bounds or bounds[word, offset] > bound:
            return False
    return True


def shows(band, text, number, thing):
    """Tell whether any object is a table that shows a number for a text."""
    band.check_text(text)
    if not is_table(band.stamps.words, text, thing):
        return False
    needed = first_entries(band, text[0])
    for at, entries in enumerate(thing):
        if at > 0:
            needed = next_entries(band, thing[at - 1], text[at])
        if not has_all(entries, needed):
            return False
    return all(bound >= number for bound in last_bounds(band, thing[-1]))
