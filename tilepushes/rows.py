"""Rows, runs and lists of pushes: what they are, and one from the other."""

from tilepushes.errors import InvalidIndex, InvalidPushes, InvalidRow, InvalidRuns, InvalidSide, TooLarge

GREATEST_LEVEL = 1000
MOST_TILES = 1000
MOST_PUSHES = 200
SIDES = ("L", "R")


def is_whole(value):
    """Return whether a value is an integer: True and False are none."""
    return isinstance(value, int) and not isinstance(value, bool)


def is_whole_within(value, least, most):
    """Return whether a value is an integer from one number to another one."""
    return is_whole(value) and least <= value <= most


def is_level(value):
    """Return whether a value is a level."""
    return is_whole_within(value, 0, GREATEST_LEVEL)


def is_run(value):
    """Return whether a value is a tuple of a level and a count from 1 on."""
    if not isinstance(value, tuple) or len(value) != 2:
        return False
    level, count = value
    return is_level(level) and is_whole(count) and count >= 1


def is_row(value):
    """Return whether a value is a row."""
    return isinstance(value, list) and all([is_level(level) for level in value])


def is_runs(value):
    """Return whether a value is runs: neighbouring ones have different levels."""
    if not isinstance(value, list) or not all([is_run(run) for run in value]):
        return False
    return all([run[0] != following[0] for run, following in zip(value, value[1:])])


def is_side(value):
    """Return whether a value is a side."""
    return isinstance(value, str) and value in SIDES


def is_pushes(value):
    """Return whether a value is a list of pushes."""
    return isinstance(value, str) and all([is_side(side) for side in value])


def check_row(row):
    """Raise InvalidRow if a value is not a row."""
    if not is_row(row):
        raise InvalidRow("a row is a list of levels from 0 to 1000")


def check_runs(runs):
    """Raise InvalidRuns if a value is not runs."""
    if not is_runs(runs):
        raise InvalidRuns("runs are a list of tuples (level, count), no level beside itself")


def check_side(side):
    """Raise InvalidSide if a value is not a side."""
    if not is_side(side):
        raise InvalidSide("a side is L or R")


def check_pushes(pushes):
    """Raise InvalidPushes if a value is not a list of pushes."""
    if not is_pushes(pushes):
        raise InvalidPushes("a list of pushes is a string of L and R")


def check_index(index, many):
    """Raise InvalidIndex if a value is not the index of one of so many things."""
    if not is_whole_within(index, 0, many - 1):
        raise InvalidIndex("an index is an integer from 0 to the number of things less 1")


def joined(pieces):
    """Return the runs of tuples (level, count) that may have equal neighbours."""
    runs = []
    for level, count in pieces:
        if runs and runs[-1][0] == level:
            runs[-1] = (level, runs[-1][1] + count)
        else:
            runs.append((level, count))
    return runs


def runs_of(row):
    """Return the runs of a row."""
    check_row(row)
    return joined([(level, 1) for level in row])


def row_of(runs):
    """Return the row of runs. Raise TooLarge if it has too many tiles."""
    check_runs(runs)
    # Counted first: a row of 10 ** 30 tiles would not fit into any memory.
    if sum([count for level, count in runs]) > MOST_TILES:
        raise TooLarge(MOST_TILES)
    row = []
    for level, count in runs:
        row.extend([level] * count)
    return row


def mirrored(row):
    """Return the row from right to left."""
    check_row(row)
    return row[::-1]


def worth_of(runs):
    """Return the worth of the row that the runs stand for."""
    check_runs(runs)
    return sum([count << level for level, count in runs])
