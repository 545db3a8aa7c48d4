"""Lists of pushes as objects."""

from tilepushes.errors import InvalidNumber, NotPushes, TooLarge
from tilepushes.pushing import pushed
from tilepushes.rows import MOST_PUSHES, check_index, check_pushes, is_side, is_whole

EXCHANGED = {"L": "R", "R": "L"}


def check_many(many):
    """Raise TooLarge if a list of so many pushes is too long to be made of others."""
    if many > MOST_PUSHES:
        raise TooLarge(MOST_PUSHES)


class Pushes:
    """A list of pushes that never changes."""

    def __init__(self, sides):
        check_pushes(sides)
        self._sides = sides

    @property
    def written(self):
        """The list of pushes as a string."""
        return self._sides

    def __add__(self, other):
        if not isinstance(other, Pushes):
            raise NotPushes("only Pushes stand behind Pushes")
        check_many(len(self._sides) + len(other._sides))
        return Pushes(self._sides + other._sides)

    def __mul__(self, number):
        if not is_whole(number) or number < 0:
            raise InvalidNumber("pushes are taken a number of times, from 0 on")
        check_many(len(self._sides) * number)
        # No pushes may be taken 10 ** 30 times, which is too often for a string.
        return Pushes(self._sides * min(number, MOST_PUSHES))

    def __neg__(self):
        return Pushes("".join([EXCHANGED[side] for side in self._sides]))

    def __len__(self):
        return len(self._sides)

    def __getitem__(self, index):
        check_index(index, len(self._sides))
        return self._sides[index]

    def __contains__(self, value):
        return is_side(value) and value in self._sides

    # Without it, Python would iterate by __getitem__.
    def __iter__(self):
        raise TypeError("pushes are not iterated over: take written")

    def __eq__(self, other):
        return isinstance(other, Pushes) and self._sides == other._sides

    def __call__(self, runs):
        return pushed(runs, self._sides)
