"""Mountains: what becomes of tiles of level 0."""

from tilepushes.errors import InvalidNumber, NoMountain, TooFew
from tilepushes.rows import check_pushes, check_row, is_row, is_whole, is_whole_within


def check_tiles(tiles):
    """Raise InvalidNumber if a value is not a number of tiles from 1 on."""
    if not is_whole(tiles) or tiles < 1:
        raise InvalidNumber("the number of tiles is an integer from 1 on")


def check_mountain(row):
    """Raise InvalidRow if a value is not a row, NoMountain if it is not a mountain."""
    check_row(row)
    if not is_mountain(row):
        raise NoMountain("a mountain ascends up to its greatest level and descends behind it")


def levels_of(tiles):
    """Return the ascending levels of each end of so many tiles: the places of the digits 1."""
    return [place for place in range(tiles.bit_length()) if (tiles >> place) % 2 == 1]


def mountain_of(levels, right):
    """Return the mountain of ascending levels, some of which stand right of the greatest one."""
    left = [level for level in levels if level not in right]
    return left + [level for level in levels[::-1] if level in right]


def stands_right(row, level):
    """Return whether a level of a mountain stands right of the greatest one."""
    return row.index(level) > row.index(max(row))


def is_mountain(value):
    """Return whether a value is a mountain."""
    if not is_row(value) or value == [] or len(set(value)) < len(value):
        return False
    top = value.index(max(value))
    return value == sorted(value[:top]) + sorted(value[top:], reverse=True)


def mountain_after(tiles, pushes):
    """Return the mountain that so many tiles of level 0 are after the pushes."""
    check_tiles(tiles)
    check_pushes(pushes)
    levels = levels_of(tiles)
    if len(pushes) < levels[-1]:
        raise TooFew(levels[-1])
    return mountain_of(levels, [level for level in levels[:-1] if pushes[level] == "L"])


def count_mountains(tiles):
    """Return the number of ends of so many tiles of level 0."""
    check_tiles(tiles)
    return 1 << (len(levels_of(tiles)) - 1)


# Ends with the least level on the left side are ahead of all others, and on
# either side the order is that of the rest of the row. So the digits of an
# end's number, from the first one on, tell of its levels, from the least one
# on: 0 for one on the left side of the greatest level, 1 for one on the right.
def nth_mountain(tiles, number):
    """Return the end of so many tiles of level 0 with a number, from 0 on in ascending order."""
    check_tiles(tiles)
    if not is_whole_within(number, 0, count_mountains(tiles) - 1):
        raise InvalidNumber("there is no end with this number")
    levels = levels_of(tiles)
    lower = levels[:-1]
    right = [level for at, level in enumerate(lower[::-1]) if (number >> at) % 2 == 1]
    return mountain_of(levels, right)


def mountain_number(row):
    """Return the number of a mountain among the ends of its worth."""
    check_mountain(row)
    number = 0
    for level in sorted(row)[:-1]:
        number = number * 2
        if stands_right(row, level):
            number += 1
    return number


def side_told(row, place):
    """Return the side of the push with an index, as a mountain tells it."""
    if place not in row:
        return "?"
    if stands_right(row, place):
        return "L"
    return "R"


def sides_of(row):
    """Return the sides of the pushes that led to a mountain, with a question mark where they do not matter."""
    check_mountain(row)
    return "".join([side_told(row, place) for place in range(max(row))])


def parting_number(pushes, other):
    """Return the least number of tiles of level 0 that two lists of pushes lead to different rows."""
    check_pushes(pushes)
    check_pushes(other)
    for at, (side, other_side) in enumerate(zip(pushes, other)):
        if side != other_side:
            return 3 << at
    if len(pushes) == len(other):
        return None
    return 2 << min(len(pushes), len(other))
