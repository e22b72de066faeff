"""Orders: in which orders the stampings of the parts of a splitting can have happened.

What is still to be pressed falls into runs. A run (start, many) is so many parts from one part on, on a ring around
the end if need be; of two parts in different runs either one can be pressed before the other.
"""

from itertools import accumulate
from math import comb

from overstamps.bands import Ring
from overstamps.errors import InvalidNumber, InvalidOrder, InvalidParts
from overstamps.parts import begins, ends, is_integer

MOST_PARTS = 24


class Layers:
    """Which parts of a splitting lie beneath the parts on their left and on their right, and so come before them."""

    def __init__(self, band, parts):
        self.many = len(parts)
        self.is_ring = band.NAME == Ring.NAME
        self.under_left = [not begins(part) for part in parts]
        self.under_right = [not ends(part, band.pieces.span) for part in parts]
        if not self.is_ring:
            # There is no seam at the ends of a row, and none between its last part and its first one.
            self.under_left[0] = False
            self.under_right[-1] = False

    def after(self, index):
        """Return the index of the part on the right of a part."""
        return (index + 1) % self.many

    def can_start(self, start, at, many):
        """Tell whether a part of a run, counted from its first one, can be pressed before the others."""
        index = (start + at) % self.many
        whole_ring = self.is_ring and many == self.many
        if self.under_right[index - 1] and (at > 0 or whole_ring):
            return False
        return not self.under_left[self.after(index)] or not (at + 1 < many or whole_ring)

    def runs_without(self, start, at, many):
        """Return the runs that a run falls into without one of its parts, counted from its first one."""
        behind = (start + at + 1) % self.many
        if self.is_ring and many == self.many:
            return [(behind, many - 1)]
        return [(start, at), (behind, many - at - 1)]


def uncovered(layers):
    """Return the ascending list of the parts that lie under no other one, so that they can be pressed last."""
    return [index for index in range(layers.many) if not layers.under_left[index] and not layers.under_right[index]]


def with_one_more(ranks, under_right, under_left):
    """Return the ranks of a run with one part more on its right.

    The ranks of a run tell in how many orders of it 0, 1, 2 and so on of its parts come before its rightmost one. The
    flags tell whether that one lies under the new part, and whether the new part lies under it.
    """
    if under_right:
        return [0] + list(accumulate(ranks))
    if under_left:
        return list(accumulate(ranks[::-1]))[::-1] + [0]
    return [sum(ranks)] * (len(ranks) + 1)


def ways_from(layers, start, most):
    """Return in how many orders 0, 1, 2 and so on parts from one part on can be pressed, up to so many."""
    ranks = [1]
    ways = [1, 1]
    last = start
    while len(ways) <= most:
        behind = layers.after(last)
        ranks = with_one_more(ranks, layers.under_right[last], layers.under_left[behind])
        ways.append(sum(ranks))
        last = behind
    return ways


def ways_of_all(layers):
    """Return in how many orders all parts can be pressed."""
    many = layers.many
    if not layers.is_ring:
        return ways_from(layers, 0, many)[many]
    for index in range(many):
        behind = layers.after(index)
        if not layers.under_right[index] and not layers.under_left[behind]:
            # Of the parts at this seam none lies under the other one, so the ring is a row from there on.
            return ways_from(layers, behind, many)[many]
    # When one part is pressed last, the other ones are a row from its end to its beginning.
    return sum([ways_from(layers, layers.after(index), many - 1)[many - 1] for index in uncovered(layers)])


def ways_of_runs(layers):
    """Return for each run in how many orders its parts can be pressed."""
    many_parts = layers.many
    ways = {}
    for start in range(many_parts):
        # On a ring a run of all parts is needed from the first part on only; on a row no run goes around the end.
        most = many_parts - 1 if layers.is_ring else many_parts - start
        for many, number in enumerate(ways_from(layers, start, most)):
            ways[start, many] = number
    ways[0, many_parts] = ways_of_all(layers)
    return ways


def ways_together(ways, runs):
    """Return in how many orders the parts of several runs can be pressed."""
    together = 1
    pressed = 0
    for start, many in runs:
        pressed += many
        together = together * comb(pressed, many) * ways[start, many]
    return together


def steps(layers, runs):
    """Return the ascending list of (part, runs without it) for the parts that can be pressed first."""
    found = []
    for number, (start, many) in enumerate(runs):
        others = runs[:number] + runs[number + 1:]
        for at in range(many):
            if layers.can_start(start, at, many):
                left = layers.runs_without(start, at, many)
                found.append(((start + at) % layers.many, others + left))
    return sorted(found)


def layers_of(band, text, parts):
    """Return the layers of the parts; an error if these are no splitting of the text, or too many."""
    if not band.is_splitting(text, parts) or len(parts) > MOST_PARTS:
        raise InvalidParts("the parts are no splitting of the text, or too many")
    return Layers(band, parts)


def shows_all(layers, thing):
    """Tell whether any object is an order that shows the parts."""
    if not isinstance(thing, list) or len(thing) != layers.many:
        return False
    if not all(is_integer(index) for index in thing) or sorted(thing) != list(range(layers.many)):
        return False
    turns = {index: turn for turn, index in enumerate(thing)}
    for index in range(layers.many):
        if layers.under_left[index] and turns[index] > turns[(index - 1) % layers.many]:
            return False
        if layers.under_right[index] and turns[index] > turns[layers.after(index)]:
            return False
    return True


def is_order(band, text, parts, thing):
    """Tell whether any object is an order that shows the parts."""
    return shows_all(layers_of(band, text, parts), thing)


def count_orders(band, text, parts):
    """Return how many orders show the parts."""
    return ways_of_all(layers_of(band, text, parts))


def nth_order(band, text, parts, index):
    """Return the order with this index among those that show the parts, in ascending order."""
    layers = layers_of(band, text, parts)
    ways = ways_of_runs(layers)
    if not 0 <= index < ways[0, layers.many]:
        raise InvalidNumber("no order has this index")
    order = []
    runs = [(0, layers.many)]
    while len(order) < layers.many:
        for part, left in steps(layers, runs):
            many = ways_together(ways, left)
            if index < many:
                break
            index -= many
        order.append(part)
        runs = left
    return order


def order_index(band, text, parts, order):
    """Return the index of an order among those that show the parts, in ascending order."""
    layers = layers_of(band, text, parts)
    if not shows_all(layers, order):
        raise InvalidOrder("this is no order that shows the parts")
    ways = ways_of_runs(layers)
    index = 0
    runs = [(0, layers.many)]
    for pressed in order:
        for part, left in steps(layers, runs):
            if part == pressed:
                break
            index += ways_together(ways, left)
        runs = left
    return index


def chain(index, under, step, many):
    """Return the parts one after another that each lie over the one before, beginning over this one."""
    found = []
    while under[index]:
        index = (index + step) % many
        found.append(index)
    return found


def always_before(band, text, parts):
    """Return the ascending list of the pairs of parts of which the first comes before the second in all orders."""
    layers = layers_of(band, text, parts)
    pairs = []
    for index in range(layers.many):
        over = chain(index, layers.under_left, -1, layers.many) + chain(index, layers.under_right, 1, layers.many)
        pairs.extend([(index, other) for other in over])
    return sorted(set(pairs))


def may_be_last(band, text, parts):
    """Return the ascending list of the parts that can be pressed last."""
    return uncovered(layers_of(band, text, parts))


def may_be_first(band, text, parts):
    """Return the ascending list of the parts that can be pressed first."""
    layers = layers_of(band, text, parts)
    return [index for index in range(layers.many) if layers.can_start(0, index, layers.many)]
