"""All rows to which pushes lead, ends among them."""

from tilepushes.errors import InvalidNumber, TooLarge
from tilepushes.pushing import row_after
from tilepushes.rows import MOST_PUSHES, SIDES, check_row, is_whole_within

MOST_SEARCHED = 20


def check_number(number):
    """Raise InvalidNumber if a value is not a number of pushes."""
    if not is_whole_within(number, 0, MOST_PUSHES):
        raise InvalidNumber("the number of pushes is an integer from 0 to 200")


def check_length(row):
    """Raise TooLarge if a row has too many tiles."""
    if len(row) > MOST_SEARCHED:
        raise TooLarge(MOST_SEARCHED)


# A push that changes a row leaves it with fewer tiles. So behind as many
# pushes as the row has tiles, all rows are still, and no push changes them.
def changing_pushes(row, number):
    """Return how many of so many pushes of a row, at the most, are worth following."""
    return min(number, len(row))


def rows_after_pushes(row, number):
    """Return the ascending list of the rows to which exactly so many pushes lead."""
    rows = [tuple(row)]
    for _ in range(changing_pushes(row, number)):
        rows = sorted({tuple(row_after(earlier, side)) for earlier in rows for side in SIDES})
    return [list(found) for found in rows]


def rows_after(row, number):
    """Return the ascending list of all rows to which exactly so many pushes lead."""
    check_row(row)
    check_number(number)
    check_length(row)
    return rows_after_pushes(row, number)


def all_ends(row):
    """Return the ascending list of all ends of a row. Raise TooLarge if it has too many tiles."""
    check_length(row)
    return rows_after_pushes(row, len(row))


def ends_of(row):
    """Return the ascending list of all still rows to which some list of pushes leads."""
    check_row(row)
    return all_ends(row)


def least_length(rows):
    """Return the least number of tiles of some rows."""
    return min([len(row) for row in rows])


def fewest_tiles(row):
    """Return the least number of tiles of an end."""
    return least_length(ends_of(row))


def find_pushes(row, goal):
    """Return the least one of the shortest lists of pushes from a row to a goal, None if there is none."""
    check_row(row)
    check_row(goal)
    check_length(row)
    wanted = tuple(goal)
    ways = {tuple(row): ""}
    fresh = [tuple(row)]
    # The rows in `fresh` are in the order of their ways, so that the way by
    # which a row is found first is the least one to it.
    while fresh and wanted not in ways:
        found = []
        for earlier in fresh:
            for side in SIDES:
                later = tuple(row_after(earlier, side))
                if later not in ways:
                    ways[later] = ways[earlier] + side
                    found.append(later)
        fresh = found
    return ways.get(wanted)


def counts_after_push(counts):
    """Return how many lists of pushes lead to each row with one push more."""
    after = {}
    for row, many in counts.items():
        for side in SIDES:
            later = tuple(row_after(row, side))
            after[later] = after.get(later, 0) + many
    return after


def count_pushes(row, goal, number):
    """Return how many lists of exactly so many pushes lead from a row to a goal."""
    check_row(row)
    check_row(goal)
    check_number(number)
    check_length(row)
    changing = changing_pushes(row, number)
    counts = {tuple(row): 1}
    for _ in range(changing):
        counts = counts_after_push(counts)
    # Each push behind them goes to either side and leads nowhere else.
    return counts.get(tuple(goal), 0) << (number - changing)
