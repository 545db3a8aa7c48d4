"""Tests of wrong arguments of tilepushes/pushing.py, and of what its functions do to lists."""

import copy
import unittest

from tests.checks import ErrorChecks
from tests.samples import HUGE, NO_PUSHES, NO_ROWS, NO_RUNS, NO_SIDES
from tilepushes.errors import InvalidPushes, InvalidRow, InvalidRuns, InvalidSide
from tilepushes.pushing import is_still, push_row, push_runs, push_steps, pushed, settle, side_matters


def steps_list(runs, pushes):
    return list(push_steps(runs, pushes))


class WrongArgumentTests(ErrorChecks):
    def test_rows(self):
        for row in NO_ROWS:
            self.check_raises(InvalidRow, push_row, row, "L")
            self.check_raises(InvalidRow, push_row, row, "R")
            self.check_raises(InvalidRow, push_row, row, "X")
            self.check_raises(InvalidRow, push_row, row, None)

    def test_runs(self):
        for runs in NO_RUNS:
            for function in [is_still, side_matters]:
                self.check_raises(InvalidRuns, function, runs)
            for side in ["L", "R", "X", None]:
                self.check_raises(InvalidRuns, push_runs, runs, side)
            for function in [pushed, steps_list, settle]:
                for pushes in ["", "L", "LR", "x", None]:
                    self.check_raises(InvalidRuns, function, runs, pushes)

    def test_sides(self):
        for side in NO_SIDES:
            for row in [[], [0], [0, 0, 0]]:
                self.check_raises(InvalidSide, push_row, row, side)
            for runs in [[], [(0, 1)], [(0, 3), (1, HUGE)]]:
                self.check_raises(InvalidSide, push_runs, runs, side)

    def test_pushes(self):
        for pushes in NO_PUSHES:
            for runs in [[], [(0, 1)], [(0, 3), (1, HUGE)]]:
                for function in [pushed, steps_list, settle]:
                    self.check_raises(InvalidPushes, function, runs, pushes)

    def test_settle_takes_no_empty_list(self):
        for runs in [[], [(0, 1)], [(0, 1), (1, 1)], [(0, 3)], [(0, HUGE)]]:
            self.check_raises(InvalidPushes, settle, runs, "")

    def test_errors_of_steps_come_with_the_first_item(self):
        for runs, pushes, expected in [
            (None, "L", InvalidRuns), ([(0, 0)], "L", InvalidRuns), ([(0, 2)], "l", InvalidPushes),
            ([(0, 2)], None, InvalidPushes), ([(0, 0)], "l", InvalidRuns), ([(0, 2)], "LLx", InvalidPushes),
        ]:
            steps = push_steps(runs, pushes)
            self.check_raises(expected, next, steps)

    def test_errors_change_nothing(self):
        row, runs = [0, 0, True], [(0, 2), (0, 1)]
        self.check_raises(InvalidRow, push_row, row, "L")
        for function in [pushed, steps_list, settle]:
            self.check_raises(InvalidRuns, function, runs, "L")
        self.assertEqual((row, runs), ([0, 0, True], [(0, 2), (0, 1)]))


class ListTests(unittest.TestCase):
    CALLS = [
        (push_row, [], "L"), (push_row, [0, 1], "L"), (push_row, [0, 1], "R"), (push_row, [0, 0, 0], "L"),
        (push_row, [0, 0, 0], "R"), (push_runs, [], "R"), (push_runs, [(0, 1)], "L"), (push_runs, [(0, 1)], "R"),
        (push_runs, [(0, 3)], "L"), (push_runs, [(0, 3)], "R"), (pushed, [], ""), (pushed, [(0, 3)], ""),
        (pushed, [(0, 1)], "L"), (pushed, [(0, 1)], "R"), (pushed, [(0, 7), (1, 1)], "LR"),
    ]

    def test_arguments_stay_and_results_are_new(self):
        for function, items, sides in self.CALLS:
            with self.subTest(function.__name__, items=items, sides=sides):
                before = copy.deepcopy(items)
                result = function(items, sides)
                kept = list(result)
                self.assertEqual(items, before)
                self.assertIsNot(result, items)
                result.append("changed")
                self.assertEqual(items, before)
                self.assertEqual(function(items, sides), kept)

    def test_settle_returns_a_new_list(self):
        for runs in [[], [(0, 1)], [(0, 3)]]:
            before = list(runs)
            many, end = settle(runs, "L")
            kept = list(end)
            self.assertIsNot(end, runs)
            end.append("changed")
            self.assertEqual(runs, before)
            self.assertEqual(settle(runs, "L"), (many, kept))

    def test_questions_change_nothing(self):
        for runs in [[], [(0, 1)], [(0, 3), (1, 2)]]:
            before = list(runs)
            is_still(runs)
            side_matters(runs)
            self.assertEqual(runs, before)

    def test_each_step_is_a_new_list(self):
        for runs, pushes in [([(0, 7)], "LRLL"), ([], "LR"), ([(0, 1)], "LR")]:
            before, expected = list(runs), steps_list(runs, pushes)
            seen = []
            for step in push_steps(runs, pushes):
                self.assertIsNot(step, runs)
                seen.append(list(step))
                step.clear()
                step.append((9, 9))
            self.assertEqual(seen, expected)
            self.assertEqual(runs, before)
            held = steps_list(runs, pushes)
            self.assertEqual(len({id(step) for step in held}), len(pushes) + 1)

    def test_a_changed_argument_does_not_change_a_result(self):
        row, runs = [0, 1], [(0, 1)]
        results = [push_row(row, "L"), push_runs(runs, "L"), pushed(runs, ""), settle(runs, "L")[1]]
        row[0] = 9
        runs[0] = (9, 9)
        self.assertEqual(results, [[0, 1], [(0, 1)], [(0, 1)], [(0, 1)]])


if __name__ == "__main__":
    unittest.main()
