"""Session: a string of lines with calls, and the string of their answers."""

from overstamps.bands import Band
from overstamps.codes import number_of, read_stamps
from overstamps.counting import nth_splitting
from overstamps.errors import InvalidCode, InvalidName, InvalidNumber, InvalidParts, InvalidStamping, InvalidText
from overstamps.errors import NothingToUndo
from overstamps.orders import count_orders
from overstamps.paper import Paper

DONE = "ok"
NONE = "none"
NO_CELLS = "-"
UNKNOWN = "?"
GREATEST = 999999999


def natural(word):
    """Return the number that a word of a line writes, or None."""
    return number_of(word, 0, GREATEST)


def orders_told(band, text):
    """Return the answer to a line that asks for the orders of the first splitting of a text."""
    try:
        parts = nth_splitting(band, text, 0)
    except InvalidNumber:
        return NONE
    return str(count_orders(band, text, parts))


class Desk:
    """The stamps, the band and the paper of a session; each of them is None until a line makes it."""

    def __init__(self):
        self._stamps = None
        self._band = None
        self._paper = None

    def answer(self, line):
        """Return the answer to a line."""
        words = line.split(" ")
        if "" in words:
            return UNKNOWN
        try:
            return self._answer_to(words)
        except InvalidCode:
            return "InvalidCode"
        except InvalidName:
            return "InvalidName"
        except InvalidNumber:
            return "InvalidNumber"
        except InvalidParts:
            return "InvalidParts"
        except InvalidStamping:
            return "InvalidStamping"
        except InvalidText:
            return "InvalidText"
        except NothingToUndo:
            return "NothingToUndo"

    def _answer_to(self, words):
        """Return the answer to a line of words, or raise the error of its call."""
        match words:
            case ["stamps", first, *others]:
                return self._take_stamps(" ".join([first] + others))
            case ["band", name, size]:
                return self._take_band(name, natural(size))
        return UNKNOWN if self._paper is None else self._answer_on_paper(words)

    def _take_stamps(self, code):
        self._stamps = read_stamps(code)
        self._band = None
        self._paper = None
        return DONE

    def _take_band(self, name, size):
        if self._stamps is None or size is None:
            return UNKNOWN
        band = Band.named(name, self._stamps)
        self._paper = Paper(band, size)
        self._band = band
        return DONE

    def _answer_on_paper(self, words):
        """Return the answer to a line that needs a paper, or raise the error of its call."""
        match words:
            case ["strip"]:
                return self._paper.shown
            case ["press", word, place]:
                return self._press(natural(word), number_of(place, -GREATEST, GREATEST))
            case ["seen", index]:
                return self._seen(natural(index))
            case ["fewest", text]:
                fewest = self._band.fewest(text)
                return NONE if fewest is None else str(fewest)
            case ["orders", text]:
                return orders_told(self._band, text)
            case ["undo"]:
                self._paper.undo()
                return DONE
            case ["mark"]:
                return str(self._paper.mark())
            case ["back", index]:
                return self._back(natural(index))
        return UNKNOWN

    def _press(self, word, place):
        if word is None or place is None:
            return UNKNOWN
        self._paper.press(word, place)
        return DONE

    def _seen(self, index):
        if index is None:
            return UNKNOWN
        cells = self._paper.seen(index)
        return " ".join([str(cell) for cell in cells]) if len(cells) > 0 else NO_CELLS

    def _back(self, index):
        if index is None:
            return UNKNOWN
        self._paper.undo_to(index)
        return DONE


def session(rows):
    """Return one string with the answers to the lines of a string."""
    desk = Desk()
    return "\n".join([desk.answer(line) for line in rows.split("\n")])
