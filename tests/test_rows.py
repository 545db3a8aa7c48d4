"""Tests of the interface's section tilepushes/rows.py."""

import copy
import unittest

from tests.samples import (
    HUGE, NO_INTEGERS, NO_PUSHES, NO_ROWS, NO_RUNS, PUSHES, ROWS, RUNS, runs_by_groups, short_rows,
)
from tilepushes.errors import InvalidRow, InvalidRuns, TooLarge
from tilepushes.rows import is_pushes, is_row, is_runs, mirrored, row_of, runs_of, worth_of


def deep(depth):
    value = 0
    for _ in range(depth):
        value = [value]
    return value


class ExampleTests(unittest.TestCase):
    def test_runs_and_back(self):
        got = [runs_of([0, 0, 3, 0]), row_of([(2, 3), (0, 1)]), worth_of([(0, 10 ** 30), (4, 2)])]
        self.assertEqual(got, [[(0, 2), (3, 1), (0, 1)], [2, 2, 2, 0], 1000000000000000000000000000032])

    def test_what_is_what(self):
        got = [is_runs([(0, 2), (0, 1)]), is_runs([(0, 0)]), is_pushes(""), is_pushes("LRl")]
        self.assertEqual(got, [False, False, True, False])


class AnyValueTests(unittest.TestCase):
    def check_all(self, function, values, expected):
        for value in values:
            with self.subTest(function.__name__, value=str(value)[:60]):
                self.assertIs(function(value), expected)

    def test_rows(self):
        self.check_all(is_row, ROWS, True)
        self.check_all(is_row, NO_ROWS, False)
        self.check_all(is_row, [run for run in RUNS if run != []], False)
        self.check_all(is_row, PUSHES, False)

    def test_runs(self):
        self.check_all(is_runs, RUNS, True)
        self.check_all(is_runs, NO_RUNS, False)
        self.check_all(is_runs, [row for row in ROWS if row != []], False)
        self.check_all(is_runs, PUSHES, False)

    def test_pushes(self):
        self.check_all(is_pushes, PUSHES, True)
        self.check_all(is_pushes, NO_PUSHES, False)
        self.check_all(is_pushes, ROWS + RUNS, False)

    def test_levels_0_to_1000(self):
        for level, expected in [(-1, False), (0, True), (1, True), (999, True), (1000, True), (1001, False)]:
            self.check_all(is_row, [[level], [0, level], [level, 0]], expected)
            self.check_all(is_runs, [[(level, 1)], [(2, 1), (level, 1)], [(level, 2), (3, 1)]], expected)

    def test_counts_from_1_on(self):
        for count, expected in [(-1, False), (0, False), (1, True), (10, True), (HUGE, True)]:
            self.check_all(is_runs, [[(0, count)], [(0, 1), (1, count)], [(0, count), (1, 1)]], expected)

    def test_no_integers_anywhere(self):
        for value in NO_INTEGERS:
            self.check_all(is_row, [[value], [0, value], [value, 0]], False)
            self.check_all(is_runs, [[(value, 1)], [(0, value)], [(3, 1), (value, 1)], [(3, 1), (0, value)]], False)

    def test_lists_are_no_tuples(self):
        self.check_all(is_row, [(0, 1), ()], False)
        self.check_all(is_runs, [((0, 1), (1, 1)), [[0, 1], [1, 1]], ([0, 1],)], False)
        self.check_all(is_pushes, [("L", "R"), ["L", "R"]], False)

    def test_nested_values(self):
        for depth in [1, 2, 3, 20]:
            value = deep(depth)
            self.assertIs(is_row(value), depth == 1)
            self.assertIs(is_runs(value), False)
            self.assertIs(is_runs([(0, value)]), False)
            self.assertIs(is_pushes(value), False)

    def test_equal_neighbours_only_side_by_side(self):
        self.assertIs(is_runs([(0, 2), (1, 2), (0, 2)]), True)
        self.assertIs(is_runs([(1, 2), (0, 2), (0, 2)]), False)
        self.assertIs(is_runs([(0, 2), (0, 3), (1, 2)]), False)

    def test_no_value_changes(self):
        for function in [is_row, is_runs, is_pushes]:
            for value in ROWS + RUNS + NO_ROWS + NO_RUNS + NO_PUSHES:
                before = copy.deepcopy(value)
                function(value)
                self.assertEqual(value, before)


class RunsOfTests(unittest.TestCase):
    def test_ordinary(self):
        self.assertEqual(runs_of([]), [])
        self.assertEqual(runs_of([5]), [(5, 1)])
        self.assertEqual(runs_of([0, 1, 0]), [(0, 1), (1, 1), (0, 1)])
        self.assertEqual(runs_of([2, 2, 2, 1, 1, 2]), [(2, 3), (1, 2), (2, 1)])
        self.assertEqual(runs_of([1000] * 70), [(1000, 70)])

    def test_all_short_rows(self):
        for row in short_rows():
            runs = runs_of(row)
            self.assertEqual(runs, runs_by_groups(row))
            self.assertTrue(is_runs(runs))
            self.assertEqual(row_of(runs), row)

    def test_different_rows_have_different_runs(self):
        rows = {tuple(row) for row in short_rows()}
        self.assertEqual(len({tuple(runs_of(list(row))) for row in rows}), len(rows))

    def test_wrong_rows(self):
        for value in NO_ROWS:
            with self.subTest(str(value)[:60]), self.assertRaises(InvalidRow):
                runs_of(value)


class RowOfTests(unittest.TestCase):
    def test_ordinary(self):
        self.assertEqual(row_of([]), [])
        self.assertEqual(row_of([(1000, 1)]), [1000])
        self.assertEqual(row_of([(0, 2), (3, 1), (0, 1)]), [0, 0, 3, 0])
        self.assertEqual(row_of([(level, 1) for level in range(70)]), list(range(70)))

    def test_runs_lead_back(self):
        for runs in [[], [(3, 4)], [(0, 3), (1, 2), (0, 1)], [(4, 69), (5, 1)], [(1, 500), (0, 500)]]:
            self.assertEqual(runs_of(row_of(runs)), runs)

    def test_a_thousand_tiles(self):
        self.assertEqual(row_of([(7, 1000)]), [7] * 1000)
        self.assertEqual(row_of([(0, 1), (2, 998), (0, 1)]), [0] + [2] * 998 + [0])

    def test_too_many_tiles(self):
        for runs in [
            [(7, 1001)], [(0, 1000), (1, 1)], [(0, 1), (1, 1000)], [(0, 500), (1, 501)], [(0, 2000)],
            [(0, HUGE)], [(0, 1), (1, HUGE)], [(0, HUGE), (1, HUGE)], [(level % 2, 1) for level in range(1001)],
        ]:
            with self.subTest(str(runs)[:60]), self.assertRaises(TooLarge) as caught:
                row_of(runs)
            self.assertEqual(caught.exception.limit, 1000)

    def test_wrong_runs(self):
        for value in NO_RUNS + [[(0, HUGE), (0, HUGE)], [(0, 2000), (1, 0)], [(1001, 2000)]]:
            with self.subTest(str(value)[:60]), self.assertRaises(InvalidRuns):
                row_of(value)


class MirroredTests(unittest.TestCase):
    def test_ordinary(self):
        self.assertEqual(mirrored([]), [])
        self.assertEqual(mirrored([4]), [4])
        self.assertEqual(mirrored([0, 0, 1, 1000]), [1000, 1, 0, 0])
        self.assertEqual(mirrored(list(range(70))), list(range(69, -1, -1)))

    def test_twice_leads_back(self):
        for row in short_rows():
            self.assertEqual(mirrored(mirrored(row)), row)

    def test_wrong_rows(self):
        for value in NO_ROWS:
            with self.subTest(str(value)[:60]), self.assertRaises(InvalidRow):
                mirrored(value)


class WorthOfTests(unittest.TestCase):
    def test_ordinary(self):
        self.assertEqual(worth_of([]), 0)
        self.assertEqual(worth_of([(0, 1)]), 1)
        self.assertEqual(worth_of([(3, 5), (0, 2)]), 42)
        self.assertEqual(worth_of([(1, 1), (2, 1), (1, 1)]), 8)

    def test_great_numbers(self):
        self.assertEqual(worth_of([(0, HUGE)]), HUGE)
        self.assertEqual(worth_of([(200, HUGE), (0, 1)]), HUGE * 2 ** 200 + 1)
        self.assertEqual(worth_of([(1000, 1), (64, HUGE)]), 2 ** 1000 + HUGE * 2 ** 64)

    def test_all_short_rows(self):
        for row in short_rows():
            self.assertEqual(worth_of(runs_by_groups(row)), sum([2 ** level for level in row]))

    def test_wrong_runs(self):
        for value in NO_RUNS:
            with self.subTest(str(value)[:60]), self.assertRaises(InvalidRuns):
                worth_of(value)


class NewListTests(unittest.TestCase):
    def test_arguments_stay_and_results_are_new(self):
        for function, argument in [
            (runs_of, []), (runs_of, [0, 0, 1]), (mirrored, []), (mirrored, [2, 1, 2]),
            (row_of, []), (row_of, [(0, 2), (1, 1)]), (worth_of, []), (worth_of, [(0, 2), (1, 1)]),
        ]:
            with self.subTest(function.__name__, argument=argument):
                before = copy.deepcopy(argument)
                first = function(argument)
                self.assertEqual(argument, before)
                self.assertIsNot(first, argument)
                if isinstance(first, list):
                    kept = list(first)
                    first.append("changed")
                    self.assertEqual(argument, before)
                    self.assertEqual(function(argument), kept)

    def test_a_changed_argument_does_not_change_a_result(self):
        row, runs = [0, 0, 1], [(0, 2), (1, 1)]
        results = [runs_of(row), mirrored(row), row_of(runs)]
        row[0] = 9
        runs[0] = (9, 9)
        self.assertEqual(results, [[(0, 2), (1, 1)], [1, 0, 0], [0, 0, 1]])


if __name__ == "__main__":
    unittest.main()
