"""Tests of the interface's section tilepushes/ends.py."""

import random
import unittest

from tests.checks import ErrorChecks
from tests.samples import HUGE, NO_INTEGERS, NO_ROWS, is_still_row, lists_of_pushes, row_by_list
from tilepushes.ends import count_pushes, ends_of, fewest_tiles, find_pushes, rows_after
from tilepushes.errors import InvalidNumber, InvalidRow, TooLarge
from tilepushes.mountains import count_mountains, nth_mountain

NO_NUMBERS = NO_INTEGERS + [1.0, 2.5, -1, -2, -HUGE, 201, 202, HUGE]
LONG = [0] * 21
# A row of twenty tiles that leads to rather many rows.
WIDE = [3, 2, 1, 0, 0, 2, 3, 2, 0, 0, 1, 3, 2, 2, 3, 0, 0, 1, 1, 1]


def searched_rows():
    chance = random.Random(3)
    rows = [[], [0], [9], [0, 0], [0, 1], [0, 0, 0], [0, 0, 0, 1], [2, 1, 0, 0, 1, 2], [0] * 6, [1, 0, 0, 0, 1, 1]]
    rows += [[chance.randrange(2) for _ in range(chance.randrange(3, 8))] for _ in range(12)]
    return rows + [[0, 0, 0, 1, 1, 1, 2], [1, 1, 1, 0, 1, 1, 1], [0, 0, 1, 0, 0, 0, 1], [200] * 5]


def long_rows():
    chance = random.Random(4)
    rows = [[0] * 20, [1] * 20, list(range(20)), [0, 1] * 10, [0, 0, 0, 1] * 5, WIDE]
    return rows + [[chance.randrange(levels) for _ in range(20)] for levels in [1, 2, 2, 2, 3, 3, 4]]


def plain_search(row):
    """Return each list of as many pushes as the row has tiles, or of fewer, with the row to which it leads."""
    return [(pushes, row_by_list(row, pushes)) for pushes in lists_of_pushes(len(row))]


def all_after(row, number):
    """Return the ascending list of the rows to which so many pushes lead, push by push."""
    rows = [list(row)]
    for _ in range(number):
        rows = [row_by_list(each, side) for each in rows for side in "LR"]
        rows = sorted([each for at, each in enumerate(rows) if each not in rows[:at]])
    return rows


class ExampleTests(unittest.TestCase):
    def test_example(self):
        row = [0, 0, 0, 1]
        got = [
            rows_after(row, 1), ends_of(row), fewest_tiles(row), find_pushes(row, [0, 2]), count_pushes(row, [0, 2], 3),
        ]
        self.assertEqual(got, [[[0, 1, 1], [1, 0, 1]], [[0, 2], [1, 0, 1]], 2, "RL", 4])


class PlainSearchTests(unittest.TestCase):
    def test_rows_after(self):
        for row in searched_rows():
            found = plain_search(row)
            for number in range(len(row) + 1):
                rows = {tuple(after) for pushes, after in found if len(pushes) == number}
                self.assertEqual(rows_after(row, number), [list(after) for after in sorted(rows)], (row, number))

    def test_ends(self):
        for row in searched_rows():
            ends = sorted({tuple(after) for pushes, after in plain_search(row) if is_still_row(after)})
            self.assertEqual(ends_of(row), [list(end) for end in ends])
            self.assertEqual(fewest_tiles(row), min(len(end) for end in ends))

    def test_find_pushes(self):
        for row in searched_rows():
            least = {}
            for pushes, after in plain_search(row):
                least.setdefault(tuple(after), pushes)
            for goal, pushes in least.items():
                self.assertEqual(find_pushes(row, list(goal)), pushes, (row, goal))

    def test_count_pushes(self):
        for row in searched_rows():
            found = plain_search(row)
            goals = sorted({tuple(after) for pushes, after in found})
            for number in range(len(row) + 1):
                rows = [tuple(after) for pushes, after in found if len(pushes) == number]
                for goal in goals:
                    self.assertEqual(count_pushes(row, list(goal), number), rows.count(goal), (row, goal, number))


class RowsAfterTests(unittest.TestCase):
    def test_no_pushes(self):
        for row in searched_rows() + long_rows():
            self.assertEqual(rows_after(row, 0), [row])

    def test_long_rows(self):
        for row in long_rows():
            for number in [1, 2, 3, 5, 19, 20, 21, 25]:
                self.assertEqual(rows_after(row, number), all_after(row, number))

    def test_200_pushes_lead_to_the_ends(self):
        for row in searched_rows() + long_rows():
            self.assertEqual(rows_after(row, 200), ends_of(row))

    def test_a_late_change(self):
        row = [0, 0] + list(range(1, 19))
        self.assertEqual(rows_after(row, 18), [[18, 18]])
        self.assertEqual(rows_after(row, 19), [[19]])
        self.assertEqual(rows_after(row, 20), [[19]])
        self.assertEqual(rows_after(row, 200), [[19]])

    def test_empty_row_and_one_tile(self):
        for number in [0, 1, 2, 200]:
            self.assertEqual(rows_after([], number), [[]])
            self.assertEqual(rows_after([1000], number), [[1000]])


class EndsOfTests(unittest.TestCase):
    def test_tiles_of_level_0(self):
        for tiles in range(1, 21):
            ends = [nth_mountain(tiles, number) for number in range(count_mountains(tiles))]
            self.assertEqual(ends_of([0] * tiles), ends)
            self.assertEqual(fewest_tiles([0] * tiles), bin(tiles).count("1"))

    def test_long_rows(self):
        for row in long_rows():
            ends = ends_of(row)
            self.assertEqual(ends, [end for end in all_after(row, 20) if is_still_row(end)])
            self.assertEqual(fewest_tiles(row), min(len(end) for end in ends))

    def test_still_rows(self):
        for row in [[], [0], [0, 1, 0], list(range(20)), [5, 3] * 10]:
            self.assertEqual(ends_of(row), [row])
            self.assertEqual(fewest_tiles(row), len(row))

    def test_ends_of_different_lengths(self):
        self.assertEqual(fewest_tiles([1, 0, 0, 0]), 2)
        self.assertEqual(ends_of([1, 0, 0, 0]), [[1, 0, 1], [2, 0]])


class FindTests(unittest.TestCase):
    def test_the_row_itself(self):
        for row in searched_rows() + long_rows():
            self.assertEqual(find_pushes(row, list(row)), "")
            self.assertEqual(find_pushes(row, row), "")

    def test_goals_that_are_not_reached(self):
        for row, goal in [
            ([], [0]), ([0], []), ([0, 0], [0]), ([0, 0], [0, 1]), ([0, 1], [1, 0]), ([1], [0, 0]), ([1, 1], [0, 0, 1]),
            ([0, 0, 0], [0, 0]), ([0] * 20, [2, 2, 4]), ([0] * 20, [4, 3, 2]), (WIDE, WIDE[::-1]), ([0], [1000]),
        ]:
            self.assertIsNone(find_pushes(row, goal), (row, goal))

    def test_least_of_the_shortest(self):
        for row, goal, pushes in [
            ([0, 0], [1], "L"), ([0] * 4, [2], "LL"), ([0] * 3, [0, 1], "R"), ([0] * 3, [1, 0], "L"),
            ([0] * 7, [1, 2, 0], "LR"), ([0] * 13, [0, 3, 2], "RLL"), ([0] * 13, [3, 2, 0], "LLL"),
            ([0] * 13, [2, 3, 0], "LLR"), ([0] * 16, [4], "LLLL"),
            ([0] * 20, [2, 4], "LLRL"), ([0] * 20, [4, 2], "LLLL"),
            ([0] * 15, [3, 2, 1, 0], "LLL"), ([0] * 15, [0, 1, 2, 3], "RRR"), ([0] * 15, [1, 3, 2, 0], "LRL"),
        ]:
            self.assertEqual(find_pushes(row, goal), pushes, (row, goal))

    def test_long_rows(self):
        for row in long_rows():
            lengths = {}
            for number in range(20):
                for after in all_after(row, number):
                    lengths.setdefault(tuple(after), number)
            for goal, length in lengths.items():
                pushes = find_pushes(row, list(goal))
                self.assertEqual(len(pushes), length)
                self.assertEqual(row_by_list(row, pushes), list(goal))
                if length <= 9:
                    equal = [each for each in lists_of_pushes(length) if len(each) == length]
                    self.assertEqual(pushes, [each for each in equal if row_by_list(row, each) == list(goal)][0])


class CountTests(unittest.TestCase):
    def test_all_lists_are_counted(self):
        for row in searched_rows() + long_rows():
            for number in [0, 1, 2, 7, 19, 20, 21, 199, 200]:
                counts = [count_pushes(row, goal, number) for goal in rows_after(row, number)]
                self.assertEqual(sum(counts), 2 ** number)
                self.assertTrue(all(count > 0 for count in counts))

    def test_goals_that_are_not_reached(self):
        for number in [0, 1, 2, 200]:
            self.assertEqual(count_pushes([0, 1], [1, 0], number), 0)
            self.assertEqual(count_pushes([], [0], number), 0)
            self.assertEqual(count_pushes([0] * 20, [0] * 20 + [0], number), 0)
        self.assertEqual(count_pushes([0, 0], [0, 0], 1), 0)
        self.assertEqual(count_pushes([0, 0], [1], 0), 0)
        self.assertEqual(count_pushes([0] * 4, [1, 1], 2), 0)

    def test_no_pushes(self):
        for row in searched_rows() + long_rows():
            self.assertEqual(count_pushes(row, list(row), 0), 1)

    def test_many_pushes(self):
        self.assertEqual(count_pushes([], [], 200), 2 ** 200)
        self.assertEqual(count_pushes([7], [7], 1), 2)
        self.assertEqual(count_pushes([0] * 20, [4, 2], 200), 2 ** 199)
        self.assertEqual(count_pushes([0] * 15, [3, 2, 1, 0], 200), 2 ** 197)
        self.assertEqual(count_pushes([0] * 16, [4], 200), 2 ** 200)
        self.assertEqual(count_pushes([0, 0] + list(range(1, 19)), [19], 18), 0)
        self.assertEqual(count_pushes([0, 0] + list(range(1, 19)), [19], 19), 2 ** 19)

    def test_lists_of_nine_pushes(self):
        for row in long_rows():
            rows = [tuple(row_by_list(row, pushes)) for pushes in lists_of_pushes(9) if len(pushes) == 9]
            for goal in sorted(set(rows)):
                self.assertEqual(count_pushes(row, list(goal), 9), rows.count(goal))


class ArgumentTests(ErrorChecks):
    def test_rows(self):
        for row in NO_ROWS + [[0] * 20 + [True], [0] * 21 + [-1]]:
            for function in [ends_of, fewest_tiles]:
                self.check_raises(InvalidRow, function, row)
            for goal in [[], [0], None]:
                self.check_raises(InvalidRow, find_pushes, row, goal)
                for number in [0, 201, None]:
                    self.check_raises(InvalidRow, count_pushes, row, goal, number)
            for number in [0, 201, None]:
                self.check_raises(InvalidRow, rows_after, row, number)

    def test_goals(self):
        for goal in NO_ROWS:
            for row in [[], [0, 0], LONG]:
                self.check_raises(InvalidRow, find_pushes, row, goal)
                for number in [0, 201, None]:
                    self.check_raises(InvalidRow, count_pushes, row, goal, number)

    def test_numbers(self):
        for number in NO_NUMBERS:
            for row in [[], [0, 0], LONG]:
                self.check_raises(InvalidNumber, rows_after, row, number)
                self.check_raises(InvalidNumber, count_pushes, row, [], number)
                self.check_raises(InvalidNumber, count_pushes, row, row, number)

    def test_twenty_one_tiles(self):
        for row in [LONG, [1, 0] * 11, list(range(21)), [0] * 70]:
            calls = [
                (rows_after, row, 0), (rows_after, row, 200), (ends_of, row), (fewest_tiles, row),
                (find_pushes, row, []), (find_pushes, row, row), (count_pushes, row, [], 0),
                (count_pushes, row, row, 200),
            ]
            for function, *arguments in calls:
                self.assertEqual(self.check_raises(TooLarge, function, *arguments).limit, 20)

    def test_goals_of_more_than_twenty_tiles(self):
        for goal in [LONG, list(range(21)), [0] * 70]:
            for row in [[], [0], [0] * 20, [1] * 20]:
                self.assertIsNone(find_pushes(row, goal))
                self.assertEqual(count_pushes(row, goal, 200), 0)

    def test_no_argument_changes(self):
        for row in [[], [0, 0, 0, 1], [0, 1], [0] * 20]:
            before, goal = list(row), [0, 2]
            for function, *rest in [
                (rows_after, 0), (rows_after, 2), (ends_of,), (fewest_tiles,), (find_pushes, goal),
                (count_pushes, goal, 3),
            ]:
                first = function(row, *rest)
                self.assertEqual(function(row, *rest), first)
                self.assertEqual((row, goal), (before, [0, 2]))

    def test_results_are_new(self):
        for row in [[], [0, 0, 0, 1], [0, 1]]:
            before = list(row)
            for function, *rest in [(rows_after, 0), (rows_after, 1), (rows_after, 200), (ends_of,)]:
                first = function(row, *rest)
                kept = [list(each) for each in first]
                for each in first:
                    self.assertIs(type(each), list)
                    self.assertIsNot(each, row)
                    each.append("changed")
                first.append("changed")
                self.assertEqual(row, before)
                self.assertEqual(function(row, *rest), kept)


if __name__ == "__main__":
    unittest.main()
