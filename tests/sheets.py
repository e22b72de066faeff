"""A second paper for the tests: a list of presses and marks, from which all else is worked out anew."""

from tests import model


class Sheet:
    """Presses and marks in the order in which they were made; what is undone is taken off the end."""

    def __init__(self, kind, words, size):
        self.kind = kind
        self.words = words
        self.size = size
        self.made = []

    def press(self, word, place):
        self.made.append((word, place))

    def mark(self):
        self.made.append("mark")
        return self.made.count("mark") - 1

    def undo(self):
        while self.made.pop() == "mark":
            pass

    def undo_to(self, index):
        marks = [at for at, one in enumerate(self.made) if one == "mark"]
        del self.made[marks[index] + 1:]

    def marks(self):
        return self.made.count("mark")

    def stampings(self):
        return [one for one in self.made if one != "mark"]

    def shown(self):
        return model.ended(self.kind, self.size, self.words, self.stampings())

    def seen(self):
        return model.seen(self.kind, self.size, self.words, self.stampings())

    def hidden(self):
        return [index for index, cells in enumerate(self.seen()) if not cells]

    def layers(self):
        many = [0] * self.size
        for _, place in self.stampings():
            for cell in model.cells_under(self.kind, self.size, len(self.words[0]), place):
                if cell is not None:
                    many[cell] += 1
        return many

    def twin(self):
        other = Sheet(self.kind, self.words, self.size)
        other.made = list(self.made)
        return other


def state(paper, many_marks):
    """All that can be asked of a paper; its marks are looked at on a twin."""
    marks = []
    for index in range(many_marks):
        twin = paper.twin()
        twin.undo_to(index)
        marks.append(len(twin))
    return (
        paper.shown, paper.stampings, len(paper), paper.hidden(), paper.layers(),
        [paper.seen(index) for index in range(len(paper))], marks, paper.twin().mark(),
    )


def state_of_sheet(sheet):
    """The same of a sheet."""
    marks = []
    for at, one in enumerate(sheet.made):
        if one == "mark":
            marks.append(len(sheet.made[:at]) - sheet.made[:at].count("mark"))
    stampings = sheet.stampings()
    return (
        sheet.shown(), stampings, len(stampings), sheet.hidden(), sheet.layers(), sheet.seen(), marks, sheet.marks(),
    )
