"""Pushes of rows and of runs."""

from tilepushes.errors import InvalidPushes
from tilepushes.rows import check_pushes, check_row, check_runs, check_side, joined


def parts_after_left(row):
    """Return, for each tile after a push to L, the indexes of the first and the last tile it is made of."""
    parts = []
    at = 0
    while at < len(row):
        last = at
        if at + 1 < len(row) and row[at] == row[at + 1]:
            last = at + 1
        parts.append((at, last))
        at = last + 1
    return parts


def parts_after(row, side):
    """Return, for each tile after a push, the indexes of the first and the last tile it is made of."""
    if side == "R":
        end = len(row) - 1
        return [(end - last, end - first) for first, last in parts_after_left(row[::-1])[::-1]]
    return parts_after_left(row)


def row_after(row, side):
    """Return the row after a push to a side."""
    # A tile that is made of two tiles has the next level.
    return [row[first] + last - first for first, last in parts_after(row, side)]


def push_row(row, side):
    """Return the row after a push to a side."""
    check_row(row)
    check_side(side)
    return row_after(row, side)


def runs_after_left(runs):
    """Return the runs after a push to L."""
    pieces = []
    for level, count in runs:
        pieces.append((level + 1, count // 2))
        pieces.append((level, count % 2))
    return joined([piece for piece in pieces if piece[1] > 0])


# Callers check what they were given once. What comes of it is not checked
# again, since a push may lead from the greatest level to the one beyond.
def runs_after(runs, side):
    """Return the runs after a push to a side."""
    if side == "R":
        return runs_after_left(runs[::-1])[::-1]
    return runs_after_left(runs)


def all_single(runs):
    """Return whether each run is one tile, so that no push changes anything."""
    return all([count == 1 for level, count in runs])


def push_runs(runs, side):
    """Return the runs after a push to a side."""
    check_runs(runs)
    check_side(side)
    return runs_after(runs, side)


def pushed(runs, pushes):
    """Return the runs after a list of pushes."""
    check_runs(runs)
    check_pushes(pushes)
    now = list(runs)
    for side in pushes:
        now = runs_after(now, side)
    return now


def push_steps(runs, pushes):
    """Yield the runs, and then the runs after each push."""
    check_runs(runs)
    check_pushes(pushes)
    now = list(runs)
    # The caller may change what it gets, so it gets a copy.
    yield list(now)
    for side in pushes:
        now = runs_after(now, side)
        yield list(now)


def is_still(runs):
    """Return whether no push changes the runs."""
    check_runs(runs)
    return all_single(runs)


def side_matters(runs):
    """Return whether pushes to L and to R lead to different runs."""
    check_runs(runs)
    # A tile stays behind tiles that were made only in a run of 3, 5, 7, ..
    return any([count > 1 and count % 2 == 1 for level, count in runs])


def settle(runs, pushes):
    """Return after how many pushes, taken again and again, the runs are still, and these runs."""
    check_runs(runs)
    check_pushes(pushes)
    if pushes == "":
        raise InvalidPushes("the empty list of pushes settles nothing")
    now = list(runs)
    many = 0
    while not all_single(now):
        now = runs_after(now, pushes[many % len(pushes)])
        many += 1
    return many, now
