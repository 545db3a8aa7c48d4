"""Values for the tests, and pushes written once more, straight from the points 7 and 8."""

from itertools import groupby, product

HUGE = 10 ** 30

NO_INTEGERS = [True, False, None, "", "0", "L", b"L", (), (0,), [], [0], {}, {0: 1}, set(), object]

NO_ROWS = [
    None, True, False, 0, 1, "", "0", "L", b"", (), (0, 1), {}, {0: 1}, set(), {0}, frozenset(), range(3), list,
    [True], [False], [0, True], [None], ["0"], ["L"], [[]], [[0]], [(0,)], [(0, 1)], [{}], [b"0"],
    [-1], [1001], [0, -1], [0, 1001], [0, 0, None], [0, [0, [0, [0]]]], [-HUGE], [HUGE],
]

ROWS = [[], [0], [1000], [0, 0], [0, 1000, 0], [7] * 70, list(range(70)), [1000] * 1001]

NO_RUNS = [
    None, True, False, 0, 1, "", "0x1", b"", (), ((0, 1),), {}, {0: 1}, set(), {(0, 1)}, frozenset(), range(2), tuple,
    [0], [0, 1], [None], [""], ["01"], [()], [(0,)], [(0, 1, 2)], [[0, 1]], [[]], [{}], [{0: 1, 1: 1}], [b"01"],
    [{0, 1}], [((0, 1),)], [(0, (1,))], [((0,), 1)],
    [(0, 0)], [(0, -1)], [(0, -HUGE)], [(-1, 1)], [(1001, 1)], [(HUGE, 1)],
    [(True, 1)], [(False, 1)], [(0, True)], [(1, False)], [(None, 1)], [(0, None)], [("0", 1)], [(0, "1")],
    [([], 1)], [(0, [])], [(0, 1), (1, 0)], [(0, 1), (-1, 1)], [(0, 1), [1, 1]], [[0, 1], (1, 1)], [(0, 1), None],
    [(0, 1), (0, 1)], [(0, 2), (0, 1)], [(0, HUGE), (0, 1)], [(1, 1), (0, 1), (0, 3)], [(0, 1), (0, 1), (1, 1)],
    [(0, 1), (1, 1), (1, 1), (0, 1)],
]

RUNS = [
    [], [(0, 1)], [(1000, 1)], [(0, 10)], [(0, HUGE)], [(0, 1), (1, 1)], [(1, 1), (0, 1)], [(0, 1), (1000, 1), (0, 1)],
    [(3, HUGE), (2, HUGE), (3, HUGE)], [(level, 1) for level in range(70)],
]

NO_SIDES = [
    None, True, False, 0, 1, "", "l", "r", "LR", "RL", "LL", " L", "L ", "0", "X", b"L", b"R", [], ["L"], ("L",), ("R",),
    {}, {"L": "R"}, {"L"}, str,
]

NO_PUSHES = [
    None, True, False, 0, 1, "l", "r", "LRl", "xLR", "LxR", "L R", " ", " L", "L\n", "0", "-", b"", b"L", b"LR",
    [], ["L"], ["L", "R"], (), ("L",), ("L", "R"), {}, {"L": "R"}, set(), {"L"}, [["L"]], str,
]

PUSHES = ["", "L", "R", "LR", "RL", "LLLL", "LR" * 100]

NO_STRINGS = [value for value in NO_INTEGERS if not isinstance(value, str)] + [
    0, 1, 12, b"", b"0", b"-", b"0x1", ["0"], ["-"], ("0",), [0, 1], [(0, 1)], [[]], {"0": "0"}, {"-"}, str, object(),
]
# Neither the texts of rows nor of runs.
NO_TEXTS = [
    "", " ", "  ", "--", "- -", "-0", "-1", "+", "+0", "+1", " -", "- ", "-\n", "\n", "\t", "a", "L", "None", "[]",
    "[0]", "()", "0,0", "0.0", "1.0", "1e2", "1_0", "0_0", "0b1", "_", "\u0663", "\u00b2", "\uff11", "\u2212", "\x00",
    "'0'", "one", "0" * 200, "\u00a0", "/", ":",
]
NO_ROW_TEXTS = NO_TEXTS + [
    "00", "01", "012", "0001000", "1001", "1002", "9999", "10000", "9" * 200, "1" + "0" * 199, " 0", "0 ", " 0 ",
    "0  0", "0 0 ", " 0 0", "0\t0", "0\n0", "0\n", "\n0", "0 - 0", "- 0", "0 -", "0 00", "0 01 0", "0 +1", "0 -1",
    "0 1001", "1001 0", "0 1_0", "0 \u0663", "0 x", "0x1", "0x1 1x1", "0, 0", "0\u00a00", "3 \uff11",
]
NO_RUN_TEXTS = NO_TEXTS + [
    "0", "1", "0 1", "x", "x1", "0x", "0x0", "0x00", "0x01", "00x1", "01x1", "0x-1", "0x+1", "+0x1", "-0x1", "-x1",
    "0x-", "-1x1", "0X1", "0*1", "0xx1", "0x1x1", "x0x1", "0x1x", "0 x1", "0x 1", "0 x 1", " 0x1", "0x1 ", "0x1  1x1",
    "0x1\t1x1", "0x1\n", "\n0x1", "0x1,1x1", "0x1 -", "- 0x1", "0x1 - 1x1", "1001x1", "10000x1", "0x1 1001x2", "0x1_0",
    "1_0x1", "\u0663x1", "0x\u0663", "0x\u00b2", "0x1.0", "0x1e2", "0xa", "ax1",
    "0x1 0x1", "0x2 0x1", "1x1 0x1 0x3", "0x1 0x1 1x1", "0x1 1x1 1x1 0x1", "0x1 1x0", "0x1 1x01", "0x1 1", "0x0 1x1",
]


def short_rows():
    """Return all rows of few tiles and low levels."""
    rows = []
    for many, levels in [(8, 2), (6, 3), (4, 4)]:
        for length in range(many + 1):
            rows.extend([list(row) for row in product(range(levels), repeat=length)])
    return rows


def runs_by_groups(row):
    return [(level, len(list(tiles))) for level, tiles in groupby(row)]


def row_by_pairs(row, side):
    """Return the row after a push, tile by tile, as point 7 says."""
    if side == "R":
        return row_by_pairs(row[::-1], "L")[::-1]
    after, left = [], list(row)
    while left:
        level = left.pop(0)
        if left and left[0] == level:
            left.pop(0)
            level += 1
        after.append(level)
    return after


def row_by_runs(row, side):
    """Return the row after a push, run by run, as point 8 says."""
    after = []
    for level, many in runs_by_groups(row):
        made, single = [level + 1] * (many // 2), [level] * (many % 2)
        after.extend(made + single if side == "L" else single + made)
    return after


def lists_of_pushes(most):
    """Return all lists of at most so many pushes, the short ones first, each length in alphabetical order."""
    return ["".join(sides) for many in range(most + 1) for sides in product("LR", repeat=many)]


def row_by_list(row, pushes):
    """Return the row after a list of pushes, tile by tile."""
    after = list(row)
    for side in pushes:
        after = row_by_pairs(after, side)
    return after


def is_still_row(row):
    return all(one != other for one, other in zip(row, row[1:]))
