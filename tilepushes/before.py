"""The rows that were there before pushes."""

from tilepushes.errors import InvalidNumber, NotBefore, TooLarge
from tilepushes.pushing import parts_after, row_after
from tilepushes.rows import check_pushes, check_row, check_side, is_row, is_whole_within

MOST_PUSHES_BACK = 4


# The way in which a tile came about is the tuple (level, made): made is 1 if
# the push made the tile of two tiles of the level below, 0 if the tile was
# there. The rows in which it was made come first, since that level is lower.
def ways_of(level):
    """Return the ways in which a tile of a level may have come about, in the order of the rows before."""
    if level == 0:
        return [(0, 0)]
    return [(level, 1), (level, 0)]


def fit(way, next_way, side):
    """Return whether one push to a side may leave neighbours of these ways: None stands for an end of the row."""
    if way is None or next_way is None:
        return True
    level, made = way
    next_level, next_made = next_way
    # A tile that was there would have become one with an equal tile that the
    # push meets behind it, also if that one became part of another tile.
    if side == "R":
        return next_made == 1 or level - made != next_level
    return made == 1 or next_level - next_made != level


def many_ahead(ahead, way, side):
    """Return how many rows before go on from a way, of those that go on from the ways of the next tile."""
    return sum([many for next_way, many in ahead.items() if fit(way, next_way, side)])


def counts_by_tile(row, side):
    """Return for each tile how many rows before go on from each of its ways, and a count of 1 for the end."""
    counts = [{None: 1}]
    for level in row[::-1]:
        ahead = counts[-1]
        counts.append({way: many_ahead(ahead, way, side) for way in ways_of(level)})
    return counts[::-1]


def numbered_row(counts, side, number):
    """Return the row before with a number, which there is."""
    earlier = []
    way = None
    left = number
    for ways in counts[:-1]:
        fitting = [each for each in ways if fit(way, each, side)]
        way = fitting[0]
        if left >= ways[way]:
            left -= ways[way]
            way = fitting[1]
        level, made = way
        earlier.extend([level - made] * (made + 1))
    return earlier


def replaced(counts, at, way, side):
    """Return the counts of those states whose way at an index goes on to another way, which takes its place."""
    after = {}
    for state, many in counts.items():
        if fit(state[at], way, side):
            later = state[:at] + (way,) + state[at + 1:]
            after[later] = after.get(later, 0) + many
    return after


# A state holds, for each push from the last one back to the first one, the way
# of the tile that was met last in the row behind this push. No more of the
# rows before is needed to go on, so there are few states and many rows.
def counts_with(counts, sides, at, level):
    """Return the counts of the states with one tile more behind the push with an index."""
    if at == len(sides):
        return counts
    after = {}
    for way in ways_of(level):
        met = replaced(counts, at, way, sides[at])
        made = way[1]
        for _ in range(made + 1):
            met = counts_with(met, sides, at + 1, level - made)
        for state, many in met.items():
            after[state] = after.get(state, 0) + many
    return after


def many_before(row, pushes):
    """Return the number of rows before a row for a list of pushes."""
    counts = {(None,) * len(pushes): 1}
    for level in row:
        counts = counts_with(counts, pushes[::-1], 0, level)
    return sum(counts.values())


def count_before(row, pushes):
    """Return the number of rows before a row for a list of at most four pushes."""
    check_row(row)
    check_pushes(pushes)
    if len(pushes) > MOST_PUSHES_BACK:
        raise TooLarge(MOST_PUSHES_BACK)
    return many_before(row, pushes)


def walk_before(row, side):
    """Yield the rows before a row for one push, in ascending order."""
    check_row(row)
    check_side(side)
    counts = counts_by_tile(row, side)
    for number in range(sum(counts[0].values())):
        yield numbered_row(counts, side, number)


def nth_before(row, side, number):
    """Return the row before a row for one push with a number, from 0 on in ascending order."""
    check_row(row)
    check_side(side)
    counts = counts_by_tile(row, side)
    if not is_whole_within(number, 0, sum(counts[0].values()) - 1):
        raise InvalidNumber("there is no row before with this number")
    return numbered_row(counts, side, number)


def before_number(row, side, earlier):
    """Return the number of a row among the rows before a row for one push."""
    check_row(row)
    check_side(side)
    if not is_row(earlier) or row_after(earlier, side) != row:
        raise NotBefore("the push does not lead from this value to the row")
    number = 0
    way = None
    for ways, level, (first, last) in zip(counts_by_tile(row, side), row, parts_after(earlier, side)):
        made = last - first
        # The rows in which the tile was made are ahead of those in which it was there.
        number += sum([many for each, many in ways.items() if each[1] > made and fit(way, each, side)])
        way = (level, made)
    return number
