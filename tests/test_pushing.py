"""Tests of the interface's section tilepushes/pushing.py, but for wrong inputs and lists."""

import unittest
from itertools import product

from tests.samples import HUGE, row_by_pairs, row_by_runs, runs_by_groups, short_rows
from tilepushes.pushing import is_still, push_row, push_runs, push_steps, pushed, settle, side_matters
from tilepushes.rows import is_runs, mirrored, row_of, runs_of, worth_of

# The table below point 9.
TABLE = [
    ([0, 0, 0, 0, 0], [1, 1, 0], [0, 1, 1]),
    ([0, 0, 0, 1], [1, 0, 1], [0, 1, 1]),
    ([2, 1, 0, 0, 1, 2], [2, 1, 1, 1, 2], [2, 1, 1, 1, 2]),
    ([2, 1, 1, 1, 2], [2, 2, 1, 2], [2, 1, 2, 2]),
]

LONG_RUNS = [
    [(0, HUGE)],
    [(0, HUGE - 1)],
    [(0, HUGE - 1), (1, 3)],
    [(1, HUGE), (0, HUGE - 1), (1, HUGE - 1), (2, 1)],
    [(level, HUGE - level) for level in range(10)],
    [(9 - level, HUGE - level) for level in range(10)],
    [(200, HUGE), (199, 1), (200, HUGE - 1)],
]


class ExampleTests(unittest.TestCase):
    def test_pushes(self):
        got = [push_row([0, 0, 0, 1], "R"), push_runs([(0, 10 ** 30 - 1), (1, 3)], "L"), pushed([(0, 7)], "LR")]
        self.assertEqual(got, [
            [0, 1, 1],
            [(1, 499999999999999999999999999999), (0, 1), (2, 1), (1, 1)],
            [(1, 1), (2, 1), (0, 1)],
        ])

    def test_steps(self):
        got = [list(push_steps([(0, 5)], "LL")), settle([(0, 7), (1, 1)], "R"), side_matters([(0, 4), (1, 1)])]
        self.assertEqual(got, [
            [[(0, 5)], [(1, 2), (0, 1)], [(2, 1), (0, 1)]],
            (3, [(0, 1), (3, 1)]),
            False,
        ])

    def test_table(self):
        for row, left, right in TABLE:
            with self.subTest(row=row):
                self.assertEqual((push_row(row, "L"), push_row(row, "R")), (left, right))
                self.assertEqual(row_of(push_runs(runs_of(row), "L")), left)
                self.assertEqual(row_of(push_runs(runs_of(row), "R")), right)


class PushRowTests(unittest.TestCase):
    def test_few_tiles(self):
        for side in ["L", "R"]:
            self.assertEqual(push_row([], side), [])
            self.assertEqual(push_row([5], side), [5])
            self.assertEqual(push_row([0, 1], side), [0, 1])
            self.assertEqual(push_row([0, 0], side), [1])
            self.assertEqual(push_row([0, 0, 0, 0], side), [1, 1])

    def test_odd_tile_stays_on_the_far_side(self):
        self.assertEqual(push_row([4, 4, 4], "L"), [5, 4])
        self.assertEqual(push_row([4, 4, 4], "R"), [4, 5])

    def test_a_tile_that_was_made_is_not_used_again(self):
        self.assertEqual(push_row([0, 0, 1], "L"), [1, 1])
        self.assertEqual(push_row([0, 0, 1], "R"), [1, 1])
        self.assertEqual(push_row([1, 0, 0], "L"), [1, 1])
        self.assertEqual(push_row([1, 0, 0], "R"), [1, 1])
        self.assertEqual(push_row([0, 0, 1, 1], "L"), [1, 2])
        self.assertEqual(push_row([0, 0, 1, 1, 2], "R"), [1, 2, 2])

    def test_seventy_tiles(self):
        self.assertEqual(push_row([200] * 70, "L"), [201] * 35)
        self.assertEqual(push_row([3] * 69, "L"), [4] * 34 + [3])
        self.assertEqual(push_row([3] * 69, "R"), [3] + [4] * 34)
        self.assertEqual(push_row(list(range(70)), "L"), list(range(70)))
        self.assertEqual(push_row([0] + list(range(69)), "R"), [1] + list(range(1, 69)))

    def test_many_tiles_are_no_error(self):
        self.assertEqual(push_row([0] * 1001, "R"), [0] + [1] * 500)

    def test_all_short_rows_by_points_7_and_8(self):
        for row, side in product(short_rows(), "LR"):
            got = push_row(row, side)
            self.assertEqual(got, row_by_pairs(row, side))
            self.assertEqual(got, row_by_runs(row, side))
            self.assertEqual(sum([2 ** level for level in got]), sum([2 ** level for level in row]))

    def test_the_sides_are_mirrored(self):
        for row in short_rows():
            self.assertEqual(push_row(row, "R"), mirrored(push_row(mirrored(row), "L")))


class PushRunsTests(unittest.TestCase):
    def test_few_runs(self):
        for side in ["L", "R"]:
            self.assertEqual(push_runs([], side), [])
            self.assertEqual(push_runs([(5, 1)], side), [(5, 1)])
            self.assertEqual(push_runs([(5, 2)], side), [(6, 1)])
            self.assertEqual(push_runs([(5, 10)], side), [(6, 5)])
            self.assertEqual(push_runs([(0, 1), (1, 1), (0, 1)], side), [(0, 1), (1, 1), (0, 1)])

    def test_odd_counts(self):
        self.assertEqual(push_runs([(5, 3)], "L"), [(6, 1), (5, 1)])
        self.assertEqual(push_runs([(5, 3)], "R"), [(5, 1), (6, 1)])
        self.assertEqual(push_runs([(0, 11), (3, 1)], "L"), [(1, 5), (0, 1), (3, 1)])
        self.assertEqual(push_runs([(0, 11), (3, 1)], "R"), [(0, 1), (1, 5), (3, 1)])

    def test_runs_that_become_neighbours_are_one(self):
        self.assertEqual(push_runs([(0, 4), (1, 1)], "L"), [(1, 3)])
        self.assertEqual(push_runs([(0, 4), (1, 1)], "R"), [(1, 3)])
        self.assertEqual(push_runs([(1, 1), (0, 4)], "R"), [(1, 3)])
        self.assertEqual(push_runs([(1, 1), (0, 4), (1, 1)], "L"), [(1, 4)])
        self.assertEqual(push_runs([(0, 2), (1, 3)], "L"), [(1, 1), (2, 1), (1, 1)])
        self.assertEqual(push_runs([(0, 2), (1, 3)], "R"), [(1, 2), (2, 1)])
        self.assertEqual(push_runs([(1, 3), (0, 2)], "L"), [(2, 1), (1, 2)])
        self.assertEqual(push_runs([(1, 3), (0, 3)], "R"), [(1, 1), (2, 1), (0, 1), (1, 1)])
        self.assertEqual(push_runs([(1, 3), (0, 3)], "L"), [(2, 1), (1, 2), (0, 1)])

    def test_huge_counts(self):
        half = 5 * 10 ** 29
        self.assertEqual(push_runs([(0, HUGE)], "L"), [(1, half)])
        self.assertEqual(push_runs([(0, HUGE), (1, HUGE)], "R"), [(1, half), (2, half)])
        self.assertEqual(push_runs([(0, HUGE - 1), (1, 1)], "L"), [(1, half - 1), (0, 1), (1, 1)])
        self.assertEqual(push_runs([(0, HUGE - 1), (1, 1)], "R"), [(0, 1), (1, half)])
        self.assertEqual(push_runs([(1, 1), (0, HUGE), (1, 1)], "R"), [(1, half + 2)])

    def test_runs_of_all_rows_agree_with_rows(self):
        for row, side in product(short_rows(), "LR"):
            runs = push_runs(runs_of(row), side)
            self.assertTrue(is_runs(runs))
            self.assertEqual(row_of(runs), push_row(row, side))
            self.assertEqual(runs, runs_of(push_row(row, side)))

    def test_seventy_tiles_agree_with_rows(self):
        for row in [
            [0] * 70, [0] * 69, list(range(70)), [0] + list(range(69)), list(range(69)) + [68], [0] * 35 + [1] * 35,
            [level // 3 for level in range(70)], [level // 2 for level in range(70)], [0, 1] * 35, [0, 0, 1] * 23,
        ]:
            for side in "LR":
                self.assertEqual(row_of(push_runs(runs_of(row), side)), push_row(row, side))
                self.assertEqual(push_row(row, side), row_by_pairs(row, side))

    def test_the_worth_stays(self):
        for runs, side in product(LONG_RUNS, "LR"):
            after = push_runs(runs, side)
            self.assertTrue(is_runs(after))
            self.assertEqual(worth_of(after), worth_of(runs))

    def test_levels_beyond_the_greatest_one_are_no_error(self):
        self.assertEqual(push_row([1000, 1000], "L"), [1001])
        self.assertEqual(push_runs([(1000, 8)], "R"), [(1001, 4)])
        self.assertEqual(pushed([(1000, 8)], "LRL"), [(1003, 1)])
        self.assertEqual(list(push_steps([(1000, 4)], "RR")), [[(1000, 4)], [(1001, 2)], [(1002, 1)]])
        self.assertEqual(settle([(1000, 8)], "L"), (3, [(1003, 1)]))


class ManyPushesTests(unittest.TestCase):
    def test_no_push(self):
        for runs in [[], [(0, 1)], [(0, 3), (1, 2)]] + LONG_RUNS:
            self.assertEqual(pushed(runs, ""), runs)
            self.assertEqual(list(push_steps(runs, "")), [runs])

    def test_one_push(self):
        for runs, side in product(LONG_RUNS + [[], [(0, 1)], [(0, 3), (1, 2)]], "LR"):
            self.assertEqual(pushed(runs, side), push_runs(runs, side))
            self.assertEqual(list(push_steps(runs, side)), [runs, push_runs(runs, side)])

    def test_the_pushes_are_in_their_order(self):
        self.assertEqual(pushed([(0, 7)], "LR"), [(1, 1), (2, 1), (0, 1)])
        self.assertEqual(pushed([(0, 7)], "RL"), [(0, 1), (2, 1), (1, 1)])
        self.assertEqual(pushed([(0, 7)], "LL"), [(2, 1), (1, 1), (0, 1)])
        self.assertEqual(pushed([(0, 7)], "RR"), [(0, 1), (1, 1), (2, 1)])

    def test_short_rows_and_lists(self):
        lists = ["".join(sides) for many in range(4) for sides in product("LR", repeat=many)]
        for row in short_rows()[::7]:
            for pushes in lists:
                steps = [row]
                for side in pushes:
                    steps.append(row_by_pairs(steps[-1], side))
                runs = runs_by_groups(row)
                self.assertEqual(pushed(runs, pushes), runs_by_groups(steps[-1]))
                self.assertEqual(list(push_steps(runs, pushes)), [runs_by_groups(step) for step in steps])

    def test_two_hundred_pushes(self):
        for runs, pushes in product(LONG_RUNS, ["L" * 200, "R" * 200, "LR" * 100, "LLR" * 66 + "RR"]):
            steps = [runs]
            for side in pushes:
                steps.append(push_runs(steps[-1], side))
            self.assertEqual(len(steps), 201)
            self.assertEqual(list(push_steps(runs, pushes)), steps)
            self.assertEqual(pushed(runs, pushes), steps[-1])
            self.assertEqual(worth_of(steps[-1]), worth_of(runs))

    def test_a_huge_count_by_its_digits(self):
        # Point 7 keeps the worth, and no two of these tiles are equal.
        places = [place for place in range(100) if HUGE >> place & 1]
        self.assertEqual(pushed([(0, HUGE)], "L" * 99), [(place, 1) for place in places[::-1]])
        self.assertEqual(pushed([(0, HUGE)], "R" * 200), [(place, 1) for place in places])


class PushStepsTests(unittest.TestCase):
    STEPS = [[(0, 7)], [(1, 3), (0, 1)], [(1, 1), (2, 1), (0, 1)], [(1, 1), (2, 1), (0, 1)]]

    def test_left_early_and_begun_again(self):
        steps = push_steps([(0, 7)], "LRL")
        self.assertEqual([next(steps), next(steps)], self.STEPS[:2])
        self.assertEqual(list(push_steps([(0, 7)], "LRL")), self.STEPS)
        self.assertEqual(list(steps), self.STEPS[2:])
        self.assertEqual(list(steps), [])

    def test_walked_twice_at_the_same_time(self):
        runs = [(0, 7)]
        one, other = push_steps(runs, "LRL"), push_steps(runs, "LRL")
        self.assertEqual(list(zip(one, other)), [(step, step) for step in self.STEPS])
        nested = [(first, second) for first in push_steps(runs, "LRL") for second in push_steps(runs, "LRL")]
        self.assertEqual(nested, [(first, second) for first in self.STEPS for second in self.STEPS])

    def test_it_is_an_iterator_of_its_own(self):
        steps = push_steps([(0, 7)], "L")
        self.assertIs(iter(steps), steps)
        self.assertFalse(isinstance(steps, (list, tuple)))


class StillTests(unittest.TestCase):
    def test_is_still(self):
        for runs, expected in [
            ([], True), ([(0, 1)], True), ([(0, 2)], False), ([(0, 1), (1, 1), (0, 1)], True),
            ([(0, 1), (1, 2)], False), ([(1, 2), (0, 1)], False), ([(0, HUGE)], False), ([(3, 3)], False),
            ([(level, 1) for level in range(70)], True), ([(level, 1) for level in range(69)] + [(0, 2)], False),
        ]:
            self.assertIs(is_still(runs), expected)

    def test_still_is_what_no_push_changes(self):
        for row in short_rows():
            unchanged = row_by_pairs(row, "L") == row and row_by_pairs(row, "R") == row
            self.assertIs(is_still(runs_by_groups(row)), unchanged)

    def test_side_matters(self):
        for runs, expected in [
            ([], False), ([(0, 1)], False), ([(0, 2)], False), ([(0, 3)], True), ([(0, 4)], False), ([(0, 5)], True),
            ([(0, 2), (1, 1), (0, 2)], False), ([(0, 1), (1, 3)], True), ([(1, 3), (0, 1)], True),
            ([(0, HUGE)], False), ([(0, HUGE - 1)], True), ([(0, HUGE), (1, HUGE + 1), (0, 2)], True),
        ]:
            self.assertIs(side_matters(runs), expected)

    def test_side_matters_as_point_9_says(self):
        for row in short_rows():
            runs = runs_by_groups(row)
            matters = side_matters(runs)
            self.assertIs(matters, row_by_pairs(row, "L") != row_by_pairs(row, "R"))
            self.assertIs(matters, push_runs(runs, "L") != push_runs(runs, "R"))
            self.assertIs(matters, any([many >= 3 and many % 2 == 1 for level, many in runs]))


class SettleTests(unittest.TestCase):
    def test_still_runs(self):
        for runs in [[], [(5, 1)], [(0, 1), (1, 1), (0, 1)], [(level, 1) for level in range(70)]]:
            for pushes in ["L", "R", "LR", "LLR" * 66]:
                self.assertEqual(settle(runs, pushes), (0, runs))

    def test_one_push_is_repeated(self):
        self.assertEqual(settle([(0, 2)], "L"), (1, [(1, 1)]))
        self.assertEqual(settle([(0, 7)], "L"), (2, [(2, 1), (1, 1), (0, 1)]))
        self.assertEqual(settle([(0, 7)], "R"), (2, [(0, 1), (1, 1), (2, 1)]))
        self.assertEqual(settle([(0, 8)], "R"), (3, [(3, 1)]))

    def test_several_pushes_follow_themselves(self):
        self.assertEqual(settle([(0, 7)], "LR"), (2, [(1, 1), (2, 1), (0, 1)]))
        self.assertEqual(settle([(0, 7)], "LRL"), (2, [(1, 1), (2, 1), (0, 1)]))
        self.assertEqual(settle([(0, 15)], "LR"), (3, [(1, 1), (3, 1), (2, 1), (0, 1)]))
        self.assertEqual(settle([(0, 15)], "RRL"), (3, [(0, 1), (1, 1), (3, 1), (2, 1)]))
        self.assertEqual(settle([(0, 31)], "LR"), (4, pushed([(0, 31)], "LRLR")))

    def test_the_list_may_end_in_its_middle(self):
        self.assertEqual(settle([(0, 2)], "LRLRL"), (1, [(1, 1)]))
        self.assertEqual(settle([(0, 2), (1, 1), (2, 1)], "LR"), (3, [(3, 1)]))

    def test_short_rows(self):
        for row, pushes in product(short_rows()[::5], ["L", "R", "LR", "RL", "LLR", "RRLL"]):
            many, now = 0, row
            while any([one == other for one, other in zip(now, now[1:])]):
                now = row_by_pairs(now, pushes[many % len(pushes)])
                many += 1
            self.assertEqual(settle(runs_by_groups(row), pushes), (many, runs_by_groups(now)))

    def test_seventy_levels_that_ascend(self):
        runs = [(0, 2)] + [(level, 1) for level in range(1, 69)]
        for pushes in ["L", "R", "LR"]:
            self.assertEqual(settle(runs, pushes), (69, [(69, 1)]))

    def test_huge_counts(self):
        self.assertEqual(settle([(0, HUGE)], "L"), (99, pushed([(0, HUGE)], "L" * 99)))
        for runs, pushes in product(LONG_RUNS, ["L", "R", "LR", "RRL"]):
            many, end = settle(runs, pushes)
            followed = (pushes * many)[:many]
            self.assertEqual(pushed(runs, followed), end)
            self.assertTrue(is_still(end))
            self.assertFalse(is_still(pushed(runs, followed[:-1])))

    def test_the_result_is_a_tuple(self):
        self.assertIs(type(settle([(0, 3)], "L")), tuple)
        self.assertIs(type(settle([(0, 3)], "L")[1]), list)


if __name__ == "__main__":
    unittest.main()
