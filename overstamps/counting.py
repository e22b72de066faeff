"""Counting: the splittings of a text in ascending order.

A splitting is put together part by part. A state, from 0 to 3, tells what can follow: 1 is in it if the part before
ends, so that not only a part that begins can follow, and 2 if a whole part is still needed.
"""

from overstamps.bands import Line, Ring
from overstamps.errors import InvalidNumber, InvalidParts

# Pairs (number of parts, ways): no part at all, and what cannot be; no splitting has as many parts as that.
NO_PARTS = (0, 1)
NEVER = (1000, 0)


def state_behind(state, offset, length, width):
    """Return the state behind a part that stands in this state."""
    if offset + length < width:
        return state - state % 2
    return 1 if length == width else state - state % 2 + 1


def count_at(kinds, at, rests):
    """Return for each state in how many ways parts of these kinds can go on at a cell."""
    begun = begun_needing = free = free_needing = 0
    for length, firsts, inners, lasts, wholes in kinds:
        loose, ended, loose_needing, ended_needing = rests[at + length]
        begun += firsts * loose + wholes * ended
        begun_needing += firsts * loose_needing + wholes * ended
        free += inners * loose + lasts * ended
        free_needing += inners * loose_needing + lasts * ended_needing
    return begun, begun + free, begun_needing, begun_needing + free_needing


def fewer(best, times, rest):
    """Return the pair with fewer parts: the best one until now, or one part, to be had so many times, and a rest."""
    many, ways = rest
    if times == 0 or ways == 0 or many >= best[0]:
        return best
    if many + 1 == best[0]:
        return best[0], best[1] + times * ways
    return many + 1, times * ways


def fewest_at(kinds, at, rests):
    """Return for each state with how few parts, and in how many ways with so few, one can go on at a cell."""
    begun = begun_needing = free = free_needing = NEVER
    for length, firsts, inners, lasts, wholes in kinds:
        loose, ended, loose_needing, ended_needing = rests[at + length]
        begun = fewer(fewer(begun, firsts, loose), wholes, ended)
        begun_needing = fewer(fewer(begun_needing, firsts, loose_needing), wholes, ended)
        free = fewer(fewer(free, firsts + inners, loose), lasts + wholes, ended)
        free_needing = fewer(fewer(free_needing, firsts + inners, loose_needing), lasts, ended_needing)
        free_needing = fewer(free_needing, wholes, ended)
    return begun, free, begun_needing, free_needing


class Turn:
    """The splittings whose first part stands at one place: the cells from there on, around a ring to the cell before.

    begun and other tell for each cell and state what is known of the ways to go on there: begun if the first part
    begins, other if it does not. Work finds that out for a cell, given the same of the cells behind it. Behind the
    last cell one is known where the last part can stand as it does, and none where it cannot.
    """

    def __init__(self, band, text, place, work, one, none):
        self.pieces = band.pieces
        self.place = place
        self.none = none
        self.cells = text[place:] + text[:place]
        is_ring = band.NAME == Ring.NAME
        is_line = band.NAME == Line.NAME
        self.state = 0 if is_line else (3 if is_ring else 1)
        tight = (none, one, none, none)
        loose = (one, one, none, none)
        # On a ring there is a seam behind the last part: it ends, or the first part begins.
        self.begun = self.rests_before(tight if is_line else loose, work)
        self.other = self.rests_before(tight, work) if is_ring else self.begun

    def rests_before(self, tail, work):
        """Return what is known for each cell and state, given the same for the end."""
        size = len(self.cells)
        rests = [(self.none,) * 4] * size + [tail]
        # On a ring the last cells here are those before the first part, and no part has a lesser place than that.
        for at in reversed(range(size - self.place)):
            kinds = self.pieces.kinds_of_lengths(self.cells[at:at + self.pieces.span])
            rests[at] = work(kinds, at, rests)
        return rests

    def choices(self, at, state, rests):
        """Return the ascending list of (part, known, state behind it, rests) for the parts that can stand at a cell.

        The rests are begun or other; before the first part they are None.
        """
        found = []
        width = self.pieces.span
        for word, offset, length in self.pieces.parts_of(self.cells[at:at + width]):
            if offset > 0 and state % 2 == 0:
                continue
            behind = state_behind(state, offset, length, width)
            after = rests
            if rests is None:
                after = self.begun if offset == 0 else self.other
            known = after[at + length][behind]
            if known != self.none:
                found.append(((self.place + at, word, offset, length), known, behind, after))
        return found

    def first_choices(self):
        """Return the choices for the first part."""
        return self.choices(0, self.state, None)


def first_places(band, text):
    """Return the ascending list of the places where first parts can stand."""
    if band.NAME != Ring.NAME:
        return [0]
    width = band.pieces.span
    if len(text) < width:
        return []
    # The last part shows the last cell and those before the first part.
    return [place for place in range(width) if text[-1] + text[:place] in band.pieces.spots]


def counted(band, text, place):
    """Return the turn with a first part at this place that knows in how many ways one can go on."""
    return Turn(band, text, place, count_at, 1, 0)


def total(turn):
    """Return the number of splittings of a counted turn."""
    return sum([choice[1] for choice in turn.first_choices()])


def count_splittings(band, text):
    """Return the number of splittings of a text."""
    band.check_text(text)
    return sum([total(counted(band, text, place)) for place in first_places(band, text)])


def splittings(band, text):
    """Yield the splittings of a text in ascending order."""
    band.check_text(text)
    for place in first_places(band, text):
        turn = counted(band, text, place)
        parts = []
        waiting = [(0, choice) for choice in reversed(turn.first_choices())]
        while waiting:
            many, (part, _, state, rests) = waiting.pop()
            parts = parts[:many] + [part]
            at = part[0] - place + part[3]
            if at == len(text):
                # A copy, since these parts are still needed when their list is the caller's.
                yield list(parts)
            else:
                waiting.extend([(many + 1, choice) for choice in reversed(turn.choices(at, state, rests))])


def nth_of_turn(turn, index):
    """Return the splitting with this index among those of a counted turn."""
    parts = []
    at = 0
    choices = turn.first_choices()
    while choices:
        for part, ways, state, rests in choices:
            if index < ways:
                break
            index -= ways
        parts.append(part)
        at += part[3]
        choices = turn.choices(at, state, rests)
    return parts


def nth_splitting(band, text, index):
    """Return the splitting of a text with this index in ascending order."""
    band.check_text(text)
    if index >= 0:
        for place in first_places(band, text):
            turn = counted(band, text, place)
            many = total(turn)
            if index < many:
                return nth_of_turn(turn, index)
            index -= many
    raise InvalidNumber("no splitting has this index")


def index_in_turn(turn, parts):
    """Return the index of a splitting among those of a counted turn."""
    index = 0
    at = 0
    choices = turn.first_choices()
    for part in parts:
        for other, ways, state, rests in choices:
            if other == part:
                break
            index += ways
        at += part[3]
        choices = turn.choices(at, state, rests)
    return index


def splitting_index(band, text, parts):
    """Return the index of a splitting among those of its text in ascending order."""
    if not band.is_splitting(text, parts):
        raise InvalidParts("the parts are no splitting of the text")
    first = parts[0][0]
    before = [total(counted(band, text, place)) for place in first_places(band, text) if place < first]
    return sum(before) + index_in_turn(counted(band, text, first), parts)


def count_fewest(band, text):
    """Return how many splittings of a text have the fewest parts."""
    band.check_text(text)
    best = NEVER
    for place in first_places(band, text):
        turn = Turn(band, text, place, fewest_at, NO_PARTS, NEVER)
        for choice in turn.first_choices():
            best = fewer(best, 1, choice[1])
    return best[1]
