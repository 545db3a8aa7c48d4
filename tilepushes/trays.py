"""Trays: rows that change, with undo."""

from tilepushes.errors import InvalidLevel, NothingToUndo, TooLarge
from tilepushes.pushing import parts_after, row_after
from tilepushes.rows import check_pushes, check_row, check_side, is_whole_within
from tilepushes.texts import read_row

GREATEST_PUT = 200


def levels_made(row, side):
    """Return the levels of the tiles that a push makes."""
    return [row[first] + 1 for first, last in parts_after(row, side) if first < last]


class Tray:
    """A row that changes."""

    MOST = 60

    # The list in `_row` never changes: each change puts another one in its
    # place. So trays and their changes may share it.
    # Each tray counts the score, so that a change is one thing to undo for all
    # kinds of trays.
    def __init__(self, row=None):
        tiles = [] if row is None else row
        check_row(tiles)
        if len(tiles) > self.MOST:
            raise TooLarge(self.MOST)
        self._row = list(tiles)
        self._score = 0
        self._earlier = []

    @classmethod
    def read(cls, text):
        """Return a tray with the row of a text."""
        return cls(read_row(text))

    @classmethod
    def _empty(cls):
        """Return a tray of this class with the empty row."""
        return cls()

    def _change(self, row, score):
        """Take a row and a score as one change."""
        self._earlier.append((self._row, self._score))
        self._row = row
        self._score = score

    def put(self, level, *, side="R"):
        """Put a tile to the end of the row on a side. Return the number of tiles."""
        if not is_whole_within(level, 0, GREATEST_PUT):
            raise InvalidLevel("the level of a tile that is put is an integer from 0 to 200")
        check_side(side)
        if len(self._row) >= self.MOST:
            raise TooLarge(self.MOST)
        if side == "L":
            self._change([level] + self._row, self._score)
        else:
            self._change(self._row + [level], self._score)
        return len(self._row)

    def push_all(self, *sides):
        """Push to each side in order, as one change. Return how many tiles each push made."""
        for side in sides:
            check_side(side)
        row = self._row
        score = self._score
        counts = []
        for side in sides:
            made = levels_made(row, side)
            counts.append(len(made))
            score += sum([1 << level for level in made])
            row = row_after(row, side)
        if len(sides) > 0:
            self._change(row, score)
        return counts

    def undo(self):
        """Revert the last change that was not reverted."""
        if self._earlier == []:
            raise NothingToUndo("no change is left to revert")
        self._row, self._score = self._earlier.pop()

    def try_pushes(self, pushes):
        """Return the row to which a list of pushes would lead."""
        check_pushes(pushes)
        row = list(self._row)
        for side in pushes:
            row = row_after(row, side)
        return row

    @property
    def row_now(self):
        """The row."""
        return list(self._row)

    @property
    def greatest_now(self):
        """The greatest level, None for the empty row."""
        return max(self._row, default=None)

    def rows_so_far(self):
        """Yield the first row, and the row after each change that was not reverted."""
        for row, _ in self._earlier:
            yield list(row)
        yield list(self._row)

    def twin(self):
        """Return an independent tray of the same class in the same state."""
        tray = self._empty()
        tray._row = self._row
        tray._score = self._score
        tray._earlier = list(self._earlier)
        return tray

    def __len__(self):
        return len(self._row)

    def __eq__(self, other):
        return isinstance(other, Tray) and self._row == other._row


class ScoreTray(Tray):
    """A tray that tells its score."""

    def __init__(self, row=None):
        super().__init__(row)

    @property
    def score_now(self):
        """The sum of 2 ** level over all tiles that were made by pushes that were not reverted."""
        return self._score
