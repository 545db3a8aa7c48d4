"""A plain model of a tray, straight from the interface's section tilepushes/trays.py."""

from tests.samples import row_by_pairs


def made_by_pairs(row, side):
    """Return the levels of the tiles that a push makes, tile by tile."""
    if side == "R":
        return made_by_pairs(row[::-1], "L")[::-1]
    made, left = [], list(row)
    while left:
        level = left.pop(0)
        if left and left[0] == level:
            left.pop(0)
            made.append(level + 1)
    return made


class TrayModel:
    """The first row and the row after each change, each with the score."""

    def __init__(self, row):
        self.rows = [list(row)]
        self.scores = [0]

    def put(self, level, side):
        row = self.rows[-1]
        self.rows.append(row + [level] if side == "R" else [level] + row)
        self.scores.append(self.scores[-1])
        return len(self.rows[-1])

    def push_all(self, sides):
        row, score, counts = self.rows[-1], self.scores[-1], []
        for side in sides:
            made = made_by_pairs(row, side)
            score += sum(2 ** level for level in made)
            counts.append(len(made))
            row = row_by_pairs(row, side)
        if sides:
            self.rows.append(row)
            self.scores.append(score)
        return counts

    def undo(self):
        self.rows.pop()
        self.scores.pop()

    def twin(self):
        other = TrayModel([])
        other.rows, other.scores = [list(row) for row in self.rows], list(self.scores)
        return other
