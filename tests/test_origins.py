"""Tests of the interface's section tilepushes/origins.py."""

import random
import unittest

from tests.checks import ErrorChecks
from tests.samples import HUGE, NO_PUSHES, NO_ROWS, lists_of_pushes, row_by_list, short_rows
from tilepushes.errors import InvalidIndex, InvalidPushes, InvalidRow
from tilepushes.origins import height_at, meeting_push, origins

NO_INDEXES = [
    True, False, None, "", "0", "L", b"0", (), (0,), [], [0], {}, {0: 0}, set(), object, 0.0, 1.0, [[[0]]], -1, -2,
    -HUGE, HUGE,
]


def followed(row, pushes):
    """Return the tiles before the first and after each push, one by one: the level, and all indexes in the tile."""
    steps = [[(level, [at]) for at, level in enumerate(row)]]
    for side in pushes:
        left, after = list(steps[-1]), []
        while left:
            take = 0 if side == "L" else -1
            level, indexes = left.pop(take)
            if left and left[take][0] == level:
                level, indexes = level + 1, indexes + left.pop(take)[1]
            after.append((level, sorted(indexes)))
        steps.append(after if side == "L" else after[::-1])
    return steps


def tile_at(step, index):
    return [tile for tile in step if index in tile[1]][0]


def some_rows():
    chance = random.Random(7)
    rows = [[], [0], [200], [0, 0], [0, 1], [0, 0, 0, 1], [0] * 7, [0] * 13, list(range(9)), [3, 2, 1, 0, 0, 1, 2, 3]]
    rows += [[chance.randrange(3) for _ in range(chance.randrange(30))] for _ in range(25)]
    rows += [[0] * 70, [200] * 69, [level % 2 for level in range(70)], [level // 3 % 4 for level in range(70)]]
    return rows


def some_pushes():
    chance = random.Random(8)
    lists = ["", "L", "R", "LR", "RL", "LRLRLR", "RRLRLLLR"]
    return lists + ["".join(chance.choice("LR") for _ in range(many)) for many in [4, 7, 12, 200]]


class ExampleTests(unittest.TestCase):
    def test_example(self):
        row = [0, 0, 0, 1]
        got = [
            origins(row, "RL"), meeting_push(row, "RL", 1, 3), meeting_push(row, "RL", 0, 1), height_at(row, "RL", 2),
        ]
        self.assertEqual(got, [[(0, 0), (1, 3)], 2, None, [0, 1, 2]])


class OriginsTests(unittest.TestCase):
    def test_against_tiles_that_are_followed(self):
        for row in some_rows():
            for pushes in some_pushes():
                expected = [(indexes[0], indexes[-1]) for level, indexes in followed(row, pushes)[-1]]
                self.assertEqual(origins(row, pushes), expected)

    def test_all_short_rows(self):
        for row in short_rows()[::7]:
            for pushes in lists_of_pushes(3):
                expected = [(indexes[0], indexes[-1]) for level, indexes in followed(row, pushes)[-1]]
                self.assertEqual(origins(row, pushes), expected)

    def test_parts_cover_the_row_in_order(self):
        for row in some_rows():
            for pushes in some_pushes():
                indexes = [index for first, last in origins(row, pushes) for index in range(first, last + 1)]
                self.assertEqual(indexes, list(range(len(row))))

    def test_parts_have_the_worth_of_the_tile(self):
        for row in some_rows():
            for pushes in some_pushes():
                for (first, last), level in zip(origins(row, pushes), row_by_list(row, pushes), strict=True):
                    self.assertEqual(sum(2 ** part for part in row[first:last + 1]), 2 ** level)

    def test_no_pushes(self):
        self.assertEqual(origins([], ""), [])
        self.assertEqual(origins([5, 5, 0], ""), [(0, 0), (1, 1), (2, 2)])

    def test_empty_row_and_one_tile(self):
        for pushes in some_pushes():
            self.assertEqual(origins([], pushes), [])
            self.assertEqual(origins([4], pushes), [(0, 0)])

    def test_side(self):
        self.assertEqual(origins([0, 0, 0], "L"), [(0, 1), (2, 2)])
        self.assertEqual(origins([0, 0, 0], "R"), [(0, 0), (1, 2)])
        self.assertEqual(origins([0] * 70, "L" * 200), [(0, 63), (64, 67), (68, 69)])
        self.assertEqual(origins([0] * 70, "R" * 200), [(0, 1), (2, 5), (6, 69)])

    def test_kinds(self):
        result = origins([0, 0, 1], "L")
        self.assertIs(type(result), list)
        self.assertEqual([type(part) for part in result], [tuple, tuple])


class MeetingTests(unittest.TestCase):
    def check_row(self, row, pushes):
        steps = followed(row, pushes)
        for index in range(len(row)):
            for other in range(len(row)):
                together = [many for many, step in enumerate(steps) if other in tile_at(step, index)[1]]
                expected = together[0] if together else None
                self.assertEqual(meeting_push(row, pushes, index, other), expected)

    def test_against_tiles_that_are_followed(self):
        for row in some_rows():
            if len(row) <= 20:
                for pushes in some_pushes()[:-1]:
                    self.check_row(row, pushes)

    def test_short_rows(self):
        for row in short_rows()[::41]:
            for pushes in lists_of_pushes(3):
                self.check_row(row, pushes)

    def test_a_tile_and_itself(self):
        for row in some_rows():
            for pushes in ["", "L", "RL", "LR" * 100]:
                for index in list(range(len(row)))[::10]:
                    self.assertEqual(meeting_push(row, pushes, index, index), 0)

    def test_both_orders(self):
        self.assertEqual(meeting_push([0] * 4, "LR", 0, 3), 2)
        self.assertEqual(meeting_push([0] * 4, "LR", 3, 0), 2)
        self.assertEqual(meeting_push([0] * 4, "LR", 1, 0), 1)
        # The ends are 1 6 2 and 2 6 1.
        for pushes, first, last in [("LR" * 100, 2, 65), ("RL" * 100, 4, 67)]:
            self.assertEqual(meeting_push([0] * 70, pushes, first, last), 6)
            self.assertEqual(meeting_push([0] * 70, pushes, last, first), 6)
            self.assertIsNone(meeting_push([0] * 70, pushes, first - 1, last))
            self.assertIsNone(meeting_push([0] * 70, pushes, last + 1, first))

    def test_never(self):
        self.assertIsNone(meeting_push([0, 0], "", 0, 1))
        self.assertIsNone(meeting_push([0, 1], "LR" * 100, 0, 1))
        self.assertIsNone(meeting_push([0, 0, 0, 0], "L", 1, 2))
        self.assertIsNone(meeting_push([0] * 70, "L" * 200, 0, 69))

    def test_after_a_late_push(self):
        row = [0, 0, 1, 2, 3, 4]
        self.assertEqual([meeting_push(row, "LRLRLR", 0, other) for other in range(6)], [0, 1, 2, 3, 4, 5])
        self.assertEqual([meeting_push(row, "LRL", 0, other) for other in range(6)], [0, 1, 2, 3, None, None])


class HeightTests(unittest.TestCase):
    def check_row(self, row, pushes, indexes):
        steps = followed(row, pushes)
        for index in indexes:
            expected = [tile_at(step, index)[0] for step in steps]
            self.assertEqual(height_at(row, pushes, index), expected)

    def test_against_tiles_that_are_followed(self):
        for row in some_rows():
            for pushes in some_pushes():
                self.check_row(row, pushes, list(range(len(row)))[::5])

    def test_short_rows(self):
        for row in short_rows()[::41]:
            for pushes in lists_of_pushes(3):
                self.check_row(row, pushes, range(len(row)))

    def test_before_the_first_and_after_each_push(self):
        self.assertEqual(height_at([7], "", 0), [7])
        self.assertEqual(height_at([7], "LRL", 0), [7, 7, 7, 7])
        self.assertEqual(height_at([200] * 2, "LL", 1), [200, 201, 201])
        self.assertEqual(len(height_at([0] * 70, "LR" * 100, 69)), 201)


class ArgumentTests(ErrorChecks):
    def test_rows(self):
        for row in NO_ROWS:
            for pushes in ["", "LR", "x", None]:
                self.check_raises(InvalidRow, origins, row, pushes)
                for index in [0, -1, None]:
                    self.check_raises(InvalidRow, height_at, row, pushes, index)
                    self.check_raises(InvalidRow, meeting_push, row, pushes, index, 0)
                    self.check_raises(InvalidRow, meeting_push, row, pushes, 0, index)

    def test_pushes(self):
        for pushes in NO_PUSHES:
            for row in [[], [0], [0, 0, 0]]:
                self.check_raises(InvalidPushes, origins, row, pushes)
                for index in [0, -1, None]:
                    self.check_raises(InvalidPushes, height_at, row, pushes, index)
                    self.check_raises(InvalidPushes, meeting_push, row, pushes, index, 0)
                    self.check_raises(InvalidPushes, meeting_push, row, pushes, 0, index)

    def test_indexes(self):
        for row in [[], [0], [0, 0, 1]]:
            for index in NO_INDEXES + [len(row), len(row) + 1]:
                for pushes in ["", "LR"]:
                    self.check_raises(InvalidIndex, height_at, row, pushes, index)
                    self.check_raises(InvalidIndex, meeting_push, row, pushes, index, 0)
                    self.check_raises(InvalidIndex, meeting_push, row, pushes, 0, index)
                    self.check_raises(InvalidIndex, meeting_push, row, pushes, index, index)

    def test_the_index_is_one_of_the_row_before(self):
        self.assertEqual(height_at([0, 0, 0], "LL", 2), [0, 0, 0])
        self.check_raises(InvalidIndex, height_at, [0, 0, 0], "", 3)
        self.assertIsNone(meeting_push([0] * 70, "L" * 7, 69, 0))
        self.check_raises(InvalidIndex, meeting_push, [0] * 70, "L" * 7, 0, 70)

    def test_nothing_changes(self):
        for function, rest in [(origins, ()), (height_at, (1,)), (meeting_push, (0, 2))]:
            for pushes in ["", "L", "RL"]:
                row = [0, 0, 0, 1]
                first = function(row, pushes, *rest)
                self.assertEqual(row, [0, 0, 0, 1])
                if isinstance(first, list):
                    kept = list(first)
                    self.assertIsNot(first, row)
                    first.clear()
                    self.assertEqual(function(row, pushes, *rest), kept)
                else:
                    self.assertEqual(function(row, pushes, *rest), first)

    def test_a_changed_row_does_not_change_a_result(self):
        row = [0, 0, 0, 1]
        parts, heights = origins(row, ""), height_at(row, "", 3)
        row.clear()
        self.assertEqual((parts, heights), ([(0, 0), (1, 1), (2, 2), (3, 3)], [1]))


if __name__ == "__main__":
    unittest.main()
