"""Tests of the interface's section tilepushes/before.py and of point 12."""

import random
import unittest
from itertools import islice, product

from tests.checks import ErrorChecks
from tests.samples import (
    HUGE, NO_INTEGERS, NO_PUSHES, NO_ROWS, NO_SIDES, lists_of_pushes, row_by_list, row_by_pairs, short_rows,
)
from tilepushes.before import before_number, count_before, nth_before, walk_before
from tilepushes.errors import InvalidNumber, InvalidPushes, InvalidRow, InvalidSide, NotBefore, TooLarge

NO_NUMBERS = NO_INTEGERS + [-1, -2, -HUGE, 1.0, 0.0, HUGE]


def search(row, side):
    """Return the ascending list of the rows before a row, among all in which each tile is one or two tiles."""
    choices = [[[level], [level - 1] * 2] if level > 0 else [[level]] for level in row]
    rows = [[level for part in parts for level in part] for parts in product(*choices)]
    return sorted(earlier for earlier in rows if row_by_pairs(earlier, side) == row)


def long_rows():
    """Return rows of seventy tiles, with very many rows before most of them."""
    chance = random.Random(5)
    rows = [[5] * 70, [200] * 70, [1] * 70, [5, 4] * 35, [1, 0] * 35, list(range(70)), list(range(200, 130, -1))]
    return rows + [[chance.randrange(1, levels) for _ in range(70)] for levels in [2, 3, 4, 5, 6, 200]]


def drawn_numbers(many, seed):
    chance = random.Random(seed)
    return sorted({0, 1, many // 2, many - 2, many - 1} | {chance.randrange(many) for _ in range(15)})


class ExampleTests(unittest.TestCase):
    def test_two_tiles(self):
        got = [list(walk_before([1, 1], "L")), count_before([0, 0], "L"), count_before([2], "LR")]
        self.assertEqual(got + [nth_before([1, 1], "L", 1)], [[[0, 0, 0, 0], [0, 0, 1], [1, 0, 0]], 0, 5, [0, 0, 1]])

    def test_numbers(self):
        got = [before_number([1, 1], "L", [1, 0, 0]), count_before([1, 2], "L"), count_before([5] * 60, "R") > 10 ** 9]
        self.assertEqual(got, [2, 3, True])


class SearchTests(ErrorChecks):
    def test_short_rows_against_the_search(self):
        for row in short_rows():
            for side in "LR":
                rows = search(row, side)
                self.assertEqual(list(walk_before(row, side)), rows, (row, side))
                self.assertEqual(count_before(row, side), len(rows))

    def test_numbers_of_short_rows(self):
        for row in short_rows()[::7]:
            for side in "LR":
                rows = search(row, side)
                self.assertEqual([nth_before(row, side, number) for number in range(len(rows))], rows)
                self.assertEqual([before_number(row, side, earlier) for earlier in rows], list(range(len(rows))))
                for number in [-1, len(rows), len(rows) + 1]:
                    self.check_raises(InvalidNumber, nth_before, row, side, number)

    def test_pushes_of_all_rows_of_eight_tiles(self):
        # No tile is made of more than two, so all rows before a row of four tiles are among these.
        found = {}
        for many in range(9):
            for earlier in product(range(3), repeat=many):
                for side in "LR":
                    row = row_by_pairs(list(earlier), side)
                    if len(row) <= 4:
                        found.setdefault((tuple(row), side), []).append(list(earlier))
        for many in range(5):
            for row in product(range(3), repeat=many):
                for side in "LR":
                    rows = sorted(found.get((row, side), []))
                    self.assertEqual(list(walk_before(list(row), side)), rows, (row, side))

    def test_there_is_none_only_beside_two_neighbouring_zeros(self):
        for row in short_rows() + long_rows() + [[0, 0] + [3] * 68, [3] * 30 + [0, 0] + [3] * 38]:
            zeros = any(one == other == 0 for one, other in zip(row, row[1:]))
            for side in "LR":
                self.assertEqual(count_before(row, side) == 0, zeros)
                self.assertEqual(list(islice(walk_before(row, side), 1)) == [], zeros)
                if zeros:
                    self.check_raises(InvalidNumber, nth_before, row, side, 0)
                    self.check_raises(NotBefore, before_number, row, side, row)

    def test_the_empty_row(self):
        for side in "LR":
            self.assertEqual(list(walk_before([], side)), [[]])
            self.assertEqual(nth_before([], side, 0), [])
            self.assertEqual(before_number([], side, []), 0)

    def test_great_levels(self):
        for side in "LR":
            self.assertEqual(list(walk_before([1000], side)), [[999, 999], [1000]])
            self.assertEqual(before_number([1000], side, [999, 999]), 0)


class CountTests(ErrorChecks):
    def count_push_by_push(self, row, pushes):
        """Return the number of the rows before the rows before a row."""
        rows = [row]
        for side in pushes[::-1]:
            rows = [earlier for later in rows for earlier in walk_before(later, side)]
        self.assertEqual(len({tuple(earlier) for earlier in rows}), len(rows))
        return len(rows)

    def test_up_to_four_pushes(self):
        rows = [list(row) for many in range(4) for row in product(range(3), repeat=many)]
        for row in rows + [[3], [4], [5], [0, 4], [3, 1], [1, 3], [2, 0, 2, 1], [1, 0, 2, 0, 1], [0, 1, 0, 1, 0, 2, 0]]:
            for pushes in lists_of_pushes(4):
                self.assertEqual(count_before(row, pushes), self.count_push_by_push(row, pushes), (row, pushes))

    def test_two_pushes_of_longer_rows(self):
        chance = random.Random(6)
        for many in [4, 5, 6, 7, 8]:
            for levels in [2, 3, 5]:
                row = [chance.randrange(levels) for _ in range(many)]
                for pushes in ["LL", "LR", "RL", "RR"]:
                    self.assertEqual(count_before(row, pushes), self.count_push_by_push(row, pushes), (row, pushes))

    def test_no_pushes_leave_the_row_itself(self):
        for row in [[], [0], [0, 0], [0] * 70, list(range(70))]:
            self.assertEqual(count_before(row, ""), 1)

    def test_the_mirrored_row(self):
        for row in long_rows() + short_rows()[::9]:
            for pushes in lists_of_pushes(4)[::6]:
                exchanged = pushes.translate(str.maketrans("LR", "RL"))
                self.assertEqual(count_before(row, pushes), count_before(row[::-1], exchanged))

    def test_one_tile(self):
        self.assertEqual([count_before([0], pushes) for pushes in ["", "L", "LR", "LRL", "LRLR"]], [1] * 5)
        self.assertEqual([count_before([1], pushes) for pushes in ["", "L", "LR", "LRL", "LRLR"]], [1, 2, 2, 2, 2])
        self.assertEqual([count_before([2], pushes) for pushes in ["", "L", "LR", "LRL", "LRLR"]], [1, 2, 5, 5, 5])

    def test_rows_of_seventy_tiles(self):
        # Levels that are far apart never meet, so the parts between the tiles of level 100 go back by themselves.
        parts = [[2, 0, 2, 1], [3, 3], [1, 0, 1, 0, 2], [200], [2, 2, 3], [0, 4], [2, 3, 2], [4]] * 2 + [[3, 0, 3, 1]]
        row = [level for part in parts for level in part + [100]] + [50, 150] * 3 + [50]
        self.assertEqual(len(row), 70)
        for pushes in lists_of_pushes(3) + ["LLLL", "LRRL", "RLLR", "RRLR"]:
            many = self.count_push_by_push([100], pushes) ** (len(parts) + 7)
            for part in parts:
                many *= self.count_push_by_push(part, pushes)
            self.assertEqual(count_before(row, pushes), many)

    def test_very_many_rows_before(self):
        for row in long_rows():
            for pushes in ["L", "RL", "LLR", "LRRL", "RRRR"]:
                self.assertGreaterEqual(count_before(row, pushes), 1 if pushes == "L" else 0)
        self.assertGreater(count_before([200] * 70, "LRRL"), 10 ** 150)

    def test_four_and_five_pushes(self):
        for row in [[], [0], [0, 0], [5] * 70]:
            self.assertIs(type(count_before(row, "LRRL")), int)
            for pushes in ["LLLLL", "LRRLR", "R" * 6, "LR" * 100]:
                self.assertEqual(self.check_raises(TooLarge, count_before, row, pushes).limit, 4)


class NumberTests(unittest.TestCase):
    def test_many_rows_before(self):
        for row in long_rows():
            for side in "LR":
                many = count_before(row, side)
                numbers = [number for number in drawn_numbers(many, 7) if 0 <= number < many]
                rows = [nth_before(row, side, number) for number in numbers]
                self.assertEqual([before_number(row, side, earlier) for earlier in rows], numbers)
                self.assertEqual(rows, sorted(rows))
                for earlier in rows:
                    self.assertEqual(row_by_pairs(earlier, side), row)

    def test_results_may_be_passed_back(self):
        row = [200] * 70
        for pushes in ["LLL", "LRL", "RRR"]:
            now = row
            for side in pushes[::-1]:
                now = nth_before(now, side, 0)
            self.assertGreater(len(now), 140)
            self.assertEqual(row_by_list(now, pushes), row)
            self.assertGreaterEqual(count_before(now, "LRLR"), 1)

    def test_a_walk_has_the_numbers(self):
        for row in long_rows():
            for side in "LR":
                some = list(islice(walk_before(row, side), 50))
                self.assertEqual([before_number(row, side, earlier) for earlier in some], list(range(len(some))))


class WalkTests(ErrorChecks):
    def test_a_walk_that_is_left_early(self):
        for number, earlier in enumerate(walk_before([5] * 70, "L")):
            self.assertEqual(earlier, nth_before([5] * 70, "L", number))
            if number == 20:
                break
        self.assertEqual(list(islice(walk_before([5] * 70, "L"), 1)), [nth_before([5] * 70, "L", 0)])

    def test_two_walks_beside_one_another(self):
        one, other, again = walk_before([1, 2, 1], "L"), walk_before([1, 2, 1], "R"), walk_before([1, 2, 1], "L")
        seen = [[], [], []]
        for each in range(len(search([1, 2, 1], "L"))):
            seen[0].append(next(one))
            seen[1].append(next(other))
            if each % 2 == 0:
                seen[2].append(next(again))
        seen[1].extend(other)
        seen[2].extend(again)
        self.assertEqual(seen, [search([1, 2, 1], side) for side in "LRL"])

    def test_a_walk_that_is_begun_again(self):
        for row in [[], [1], [1, 1], [2, 1, 2]]:
            self.assertEqual(list(walk_before(row, "R")), list(walk_before(row, "R")))

    def test_errors_come_with_the_first_item(self):
        for row, side, expected in [
            (None, "L", InvalidRow), ([True], "L", InvalidRow), ([1001], "X", InvalidRow), ([1], "X", InvalidSide),
            ([0, 0], None, InvalidSide), ([1], "LR", InvalidSide), ([], "", InvalidSide),
        ]:
            walk = walk_before(row, side)
            self.check_raises(expected, next, walk)

    def test_all_wrong_rows_and_sides(self):
        for value in NO_ROWS:
            for side in ["L", "X", None]:
                self.check_raises(InvalidRow, next, walk_before(value, side))
        for value in NO_SIDES:
            for row in [[], [1], [0, 0]]:
                self.check_raises(InvalidSide, next, walk_before(row, value))


class ArgumentTests(ErrorChecks):
    def test_rows(self):
        for row in NO_ROWS:
            for side in ["L", "X"]:
                for other in [0, -1, None, []]:
                    self.check_raises(InvalidRow, nth_before, row, side, other)
                    self.check_raises(InvalidRow, before_number, row, side, other)
            for pushes in ["", "L", "LLLLL", "x", None]:
                self.check_raises(InvalidRow, count_before, row, pushes)

    def test_sides(self):
        for side in NO_SIDES:
            for row in [[], [1, 1], [0, 0]]:
                for other in [0, -1, None, []]:
                    self.check_raises(InvalidSide, nth_before, row, side, other)
                    self.check_raises(InvalidSide, before_number, row, side, other)

    def test_pushes(self):
        for pushes in NO_PUSHES + ["LLLLx", "LRLRl"]:
            for row in [[], [1, 1], [0, 0]]:
                self.check_raises(InvalidPushes, count_before, row, pushes)

    def test_numbers(self):
        for number in NO_NUMBERS:
            for row in [[], [1], [1, 1], [0, 0]]:
                for side in "LR":
                    self.check_raises(InvalidNumber, nth_before, row, side, number)
        many = count_before([5] * 70, "L")
        for number in [many, many + 1, 2 * many]:
            self.check_raises(InvalidNumber, nth_before, [5] * 70, "L", number)

    def test_values_that_are_not_before(self):
        for value in NO_ROWS + [[0.0, 0.0], [1.0, 1], [False, False, 1], [0, 0, True], ([0, 0, 1],), [[0, 0, 1]]]:
            for row in [[], [1], [1, 1], [0, 0]]:
                for side in "LR":
                    self.check_raises(NotBefore, before_number, row, side, value)

    def test_rows_that_are_not_before(self):
        for row, side, earlier in [
            ([], "L", [0]), ([0], "L", []), ([1, 1], "L", [1, 1]), ([1, 1], "L", [2]), ([1, 1], "L", [0, 1, 0]),
            ([0, 0], "L", [0, 0]), ([1, 0], "L", [1, 0, 0]), ([1, 0], "R", [0, 0, 0]), ([0, 1], "L", [0, 0, 0]),
            ([1], "L", [0]), ([1], "L", [0, 0, 0]), ([1], "R", [2]), ([2], "L", [0, 0, 0, 0]),
        ]:
            self.check_raises(NotBefore, before_number, row, side, earlier)
        self.assertEqual(before_number([1, 0], "L", [0, 0, 0]), 0)
        self.assertEqual(before_number([0, 1], "R", [0, 0, 0]), 0)

    def test_no_argument_changes(self):
        row, earlier = [1, 1], [0, 0, 1]
        for function, *rest in [
            (count_before, ""), (count_before, "L"), (count_before, "LRLR"), (nth_before, "L", 0),
            (before_number, "L", earlier), (lambda row: list(walk_before(row, "L")),),
        ]:
            first = function(row, *rest)
            self.assertEqual(function(row, *rest), first)
            self.assertEqual((row, earlier), ([1, 1], [0, 0, 1]))
        self.check_raises(NotBefore, before_number, row, "R", [0, 1, 0])
        self.check_raises(InvalidNumber, nth_before, row, "L", 3)
        self.assertEqual(row, [1, 1])

    def test_results_are_new(self):
        for row in [[], [1], [1, 0, 1], [2, 2]]:
            before = list(row)
            for side in "LR":
                kept = search(row, side)
                for number, earlier in enumerate(walk_before(row, side)):
                    again = nth_before(row, side, number)
                    self.assertEqual((earlier, again), (kept[number], kept[number]))
                    self.assertIsNot(earlier, row)
                    self.assertIsNot(again, row)
                    for each in [earlier, again]:
                        each.append("changed")
                self.assertEqual(list(walk_before(row, side)), kept)
                self.assertEqual(row, before)

    def test_a_row_that_is_changed_later(self):
        row = [1, 1]
        found = nth_before(row, "L", 2)
        row[0] = 7
        self.assertEqual(found, [1, 0, 0])


if __name__ == "__main__":
    unittest.main()
