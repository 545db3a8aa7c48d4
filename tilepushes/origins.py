"""Of which tiles of a row a tile was made."""

from tilepushes.pushing import parts_after
from tilepushes.rows import check_index, check_pushes, check_row


def tiles_of(row):
    """Return the tiles of a row as tuples: the level, and the indexes of the first and the last tile in it."""
    return [(level, at, at) for at, level in enumerate(row)]


def tiles_after(tiles, side):
    """Return the tiles after a push to a side."""
    parts = parts_after([tile[0] for tile in tiles], side)
    return [(tiles[left][0] + right - left, tiles[left][1], tiles[right][2]) for left, right in parts]


def tiles_at_each_step(row, pushes):
    """Return the tiles before the first and after each push."""
    steps = [tiles_of(row)]
    for side in pushes:
        steps.append(tiles_after(steps[-1], side))
    return steps


def tile_with(tiles, index):
    """Return the tile that contains the tile of the row with an index."""
    return [tile for tile in tiles if tile[1] <= index <= tile[2]][0]


def origins(row, pushes):
    """Return for each tile after the pushes the indexes of the first and the last tile it was made of."""
    check_row(row)
    check_pushes(pushes)
    return [(first, last) for level, first, last in tiles_at_each_step(row, pushes)[-1]]


def meeting_push(row, pushes, index, other_index):
    """Return after how many of the pushes two tiles are in one tile, None if they never are."""
    check_row(row)
    check_pushes(pushes)
    check_index(index, len(row))
    check_index(other_index, len(row))
    for many, tiles in enumerate(tiles_at_each_step(row, pushes)):
        if tile_with(tiles, index) == tile_with(tiles, other_index):
            return many
    return None


def height_at(row, pushes, index):
    """Return the levels of the tile that contains a tile, before the first and after each push."""
    check_row(row)
    check_pushes(pushes)
    check_index(index, len(row))
    return [tile_with(tiles, index)[0] for tiles in tiles_at_each_step(row, pushes)]
