"""Tests of the interface's section tilepushes/mountains.py and of the points 10 and 11."""

import random
import unittest

from tests.checks import ErrorChecks
from tests.samples import (
    HUGE, NO_INTEGERS, NO_PUSHES, NO_ROWS, PUSHES, is_still_row, lists_of_pushes, row_by_list, short_rows,
)
from tilepushes.errors import InvalidNumber, InvalidPushes, InvalidRow, NoMountain, TooFew
from tilepushes.mountains import (
    count_mountains, is_mountain, mountain_after, mountain_number, nth_mountain, parting_number, sides_of,
)
from tilepushes.pushing import is_still, pushed
from tilepushes.rows import runs_of, worth_of

NO_NUMBERS = NO_INTEGERS + [1.0, 2.5, -1, -2, -HUGE]
MOUNTAINS = [
    [0], [5], [1000], [0, 1], [1, 0], [0, 2, 1], [1, 2, 0], [0, 1, 2], [2, 1, 0], [0, 3, 9, 7, 5, 2], list(range(70)),
    list(range(69, -1, -1)), [0, 1000, 999], list(range(0, 200, 4)) + list(range(199, 160, -2)),
]
NO_MOUNTAINS = [
    [], [0, 0], [3, 3, 3], [0, 1, 1], [1, 1, 0], [0, 1, 0], [2, 5, 2], [0, 2, 2, 1], [0, 0, 1], [1, 0, 0], [1, 0, 1],
    [2, 0, 1], [1, 0, 2], [5, 4, 3, 4], [0, 2, 1, 3], [0, 3, 1, 2], [3, 1, 2], [0, 1, 2, 3, 1], [1, 2, 3, 0, 1],
    list(range(70)) + [69], list(range(70)) + [3], [7] * 70,
]
# Numbers near powers of 2, and numbers of many digits.
GREAT = [2 ** 20 - 1, 2 ** 20, 2 ** 20 + 1, 2 ** 64 - 1, 2 ** 64, 10 ** 9 + 7, HUGE - 1, HUGE, 10 ** 31 - 1, 10 ** 31]


def ends_by_pushes(tiles):
    """Return the ascending list of the rows to which all lists of pushes lead."""
    rows = [(0,) * tiles]
    while not all(is_still_row(row) for row in rows):
        rows = sorted({tuple(row_by_list(row, side)) for row in rows for side in "LR"})
    return [list(row) for row in rows]


def some_lists(many, seed):
    chance = random.Random(seed)
    return ["".join(chance.choice("LR") for _ in range(many)) for _ in range(4)] + ["L" * many, "R" * many]


class ExampleTests(unittest.TestCase):
    def test_thirteen(self):
        got = [mountain_after(13, "RLL"), count_mountains(13), [nth_mountain(13, number) for number in range(4)]]
        self.assertEqual(got, [[0, 3, 2], 4, [[0, 2, 3], [0, 3, 2], [2, 3, 0], [3, 2, 0]]])

    def test_back(self):
        got = [mountain_number([3, 2, 0]), sides_of([0, 3, 2]), parting_number("LLR", "LRR"), parting_number("L", "LR")]
        self.assertEqual(got, [3, "R?L", 6, 4])


class IsMountainTests(unittest.TestCase):
    def test_mountains(self):
        for row in MOUNTAINS:
            self.assertIs(is_mountain(row), True, row)
            self.assertIs(is_mountain(row[::-1]), True, row)

    def test_other_rows(self):
        for row in NO_MOUNTAINS:
            self.assertIs(is_mountain(row), False, row)
            self.assertIs(is_mountain(row[::-1]), False, row)

    def test_other_values(self):
        tuples = [tuple(row) for row in MOUNTAINS]
        for value in NO_ROWS + PUSHES + tuples + [[0, True], [True], [0, 2.0, 1], [(0, 2), (1, 1)], [(0, 1)]]:
            self.assertIs(is_mountain(value), False, str(value)[:60])

    def test_all_short_rows_against_the_ends(self):
        ends = [end for tiles in range(1, 64) for end in ends_by_pushes(tiles)]
        for row in short_rows() + [[level, 4, other] for level in range(5) for other in range(5)]:
            worth = sum(2 ** level for level in row)
            if worth < 64:
                self.assertIs(is_mountain(row), row in ends, row)

    def test_no_value_changes(self):
        for row in MOUNTAINS + NO_MOUNTAINS:
            before = list(row)
            is_mountain(row)
            self.assertEqual(row, before)


class MountainAfterTests(ErrorChecks):
    def check_pushed(self, tiles, pushes):
        row = mountain_after(tiles, pushes)
        self.assertEqual(runs_of(row), pushed([(0, tiles)], pushes))
        self.assertTrue(is_mountain(row))

    def test_small_numbers_against_pushed(self):
        for tiles in range(1, 33):
            for pushes in lists_of_pushes(6):
                if len(pushes) >= tiles.bit_length() - 1:
                    self.check_pushed(tiles, pushes)

    def test_great_numbers_against_pushed(self):
        for at, tiles in enumerate(GREAT):
            least = tiles.bit_length() - 1
            for many in [least, least + 1, 150, 200]:
                for pushes in some_lists(many, at):
                    self.check_pushed(tiles, pushes)

    def test_near_powers_of_two(self):
        for place in [1, 2, 3, 10, 40, 100]:
            for tiles in [2 ** place - 1, 2 ** place, 2 ** place + 1]:
                for pushes in some_lists(place, place):
                    self.check_pushed(tiles, pushes)
                self.assertEqual(mountain_after(2 ** place, "L" * place), [place])
                self.assertEqual(mountain_after(2 ** place + 1, "L" * place), [place, 0])
                self.assertEqual(mountain_after(2 ** place + 1, "R" * place), [0, place])
                self.assertEqual(mountain_after(2 ** place - 1, "R" * place), list(range(place)))

    def test_one_tile(self):
        for pushes in ["", "L", "R", "LR" * 100]:
            self.assertEqual(mountain_after(1, pushes), [0])

    def test_other_pushes_do_not_matter(self):
        for sides in lists_of_pushes(3):
            if len(sides) == 3:
                rows = [mountain_after(13, sides[0] + side + sides[2] + rest) for side in "LR" for rest in ["", "LR"]]
                self.assertEqual(rows, [mountain_after(13, sides)] * 4)

    def test_too_few(self):
        for tiles in list(range(2, 20)) + GREAT:
            least = tiles.bit_length() - 1
            for many in sorted({0, 1, least // 2, least - 1}):
                if many < least:
                    caught = self.check_raises(TooFew, mountain_after, tiles, "R" * many)
                    self.assertEqual(caught.needed, least)
            self.assertTrue(is_mountain(mountain_after(tiles, "R" * least)))

    def test_order_of_errors(self):
        for tiles in NO_NUMBERS + [0]:
            for pushes in ["", "LR", "x", None]:
                self.check_raises(InvalidNumber, mountain_after, tiles, pushes)
        for pushes in NO_PUSHES:
            for tiles in [1, 13, HUGE]:
                self.check_raises(InvalidPushes, mountain_after, tiles, pushes)


class NumberTests(ErrorChecks):
    def test_small_numbers_against_the_ends(self):
        for tiles in range(1, 130):
            ends = ends_by_pushes(tiles)
            self.assertEqual(count_mountains(tiles), len(ends))
            self.assertEqual([nth_mountain(tiles, number) for number in range(len(ends))], ends)
            self.assertEqual([mountain_number(end) for end in ends], list(range(len(ends))))

    def test_great_numbers_one_against_another(self):
        for tiles in GREAT:
            many = count_mountains(tiles)
            self.assertEqual(many, 2 ** (bin(tiles).count("1") - 1))
            chance = random.Random(tiles)
            numbers = sorted({0, many // 2, many - 1} | {chance.randrange(many) for _ in range(20)})
            ends = [nth_mountain(tiles, number) for number in numbers]
            self.assertEqual(ends, sorted(ends))
            for number, end in zip(numbers, ends):
                self.assertTrue(is_mountain(end))
                self.assertEqual(worth_of(runs_of(end)), tiles)
                self.assertEqual(mountain_number(end), number)
            self.assertEqual(ends[0], sorted(ends[0]))
            self.assertEqual(ends[-1], sorted(ends[-1], reverse=True))

    def test_all_ends_of_a_greater_number(self):
        tiles = 2 ** 40 + 2 ** 33 + 2 ** 20 + 2 ** 11 + 2 ** 5 + 2 ** 4 + 2 ** 3 + 2
        ends = [nth_mountain(tiles, number) for number in range(count_mountains(tiles))]
        self.assertEqual(len(ends), 128)
        self.assertEqual(ends, sorted(ends))
        self.assertEqual(len({tuple(end) for end in ends}), 128)
        self.assertEqual([mountain_number(end) for end in ends], list(range(128)))

    def test_mountains_of_great_levels(self):
        self.assertEqual(mountain_number([1000]), 0)
        self.assertEqual(mountain_number([1000, 0]), 1)
        self.assertEqual(mountain_number([0, 1000, 999]), 1)
        self.assertEqual(mountain_number(list(range(69, -1, -1))), 2 ** 69 - 1)

    def test_numbers_that_there_are_not(self):
        for tiles in [1, 2, 3, 13, 2 ** 64, HUGE]:
            many = count_mountains(tiles)
            for number in NO_NUMBERS + [many, many + 1, 2 * many, 10 ** 40]:
                self.check_raises(InvalidNumber, nth_mountain, tiles, number)

    def test_numbers_of_tiles(self):
        for tiles in NO_NUMBERS + [0]:
            self.check_raises(InvalidNumber, count_mountains, tiles)
            for number in [0, 1, -1, None]:
                self.check_raises(InvalidNumber, nth_mountain, tiles, number)

    def test_rows_that_are_no_mountains(self):
        for row in NO_MOUNTAINS:
            self.check_raises(NoMountain, mountain_number, row)
            self.check_raises(NoMountain, sides_of, row)

    def test_values_that_are_no_rows(self):
        for row in NO_ROWS:
            self.check_raises(InvalidRow, mountain_number, row)
            self.check_raises(InvalidRow, sides_of, row)


class SidesTests(ErrorChecks):
    def test_read_back(self):
        for tiles in list(range(1, 40)) + GREAT:
            many = tiles.bit_length() - 1
            for pushes in some_lists(many, tiles):
                told = sides_of(mountain_after(tiles, pushes))
                self.assertEqual(len(told), many)
                for place, side in enumerate(told):
                    self.assertEqual(side, pushes[place] if tiles >> place & 1 else "?")

    def test_question_marks_do_not_matter(self):
        for tiles in range(1, 64):
            for end in ends_by_pushes(tiles):
                told = sides_of(end)
                for side in "LR":
                    self.assertEqual(mountain_after(tiles, told.replace("?", side)), end)
                for place, known in enumerate(told):
                    if known != "?":
                        other = told[:place] + {"L": "R", "R": "L"}[known] + told[place + 1:]
                        self.assertNotEqual(mountain_after(tiles, other.replace("?", "L")), end)

    def test_ordinary(self):
        self.assertEqual(sides_of([0]), "")
        self.assertEqual(sides_of([5]), "?????")
        self.assertEqual(sides_of([2, 1, 0]), "LL")
        self.assertEqual(sides_of([0, 1, 2]), "RR")
        self.assertEqual(sides_of([1, 1000, 998]), "?R" + "?" * 996 + "L?")


class PartingTests(ErrorChecks):
    def test_equal_lists(self):
        for pushes in lists_of_pushes(4) + PUSHES:
            self.assertIsNone(parting_number(pushes, pushes))

    def test_short_lists_against_all_smaller_numbers(self):
        lists = lists_of_pushes(4)
        for one in lists:
            for other in lists:
                if one != other:
                    parted = parting_number(one, other)
                    apart = [n for n in range(1, parted + 1) if pushed([(0, n)], one) != pushed([(0, n)], other)]
                    self.assertEqual(apart, [parted], (one, other))

    def test_the_beginning_of_the_other_one(self):
        for many in [0, 1, 2, 50, 199]:
            for rest in [1, 200 - many]:
                one, other = ("LR" * 100)[:many], ("LR" * 100)[:many + rest]
                self.assertEqual(parting_number(one, other), 2 ** (many + 1))
                self.assertEqual(parting_number(other, one), 2 ** (many + 1))

    def test_different_sides(self):
        for at in [0, 1, 30, 199]:
            one, other = "L" * at + "R" + "L" * (199 - at), "L" * 200
            self.assertEqual(parting_number(one, other), 3 * 2 ** at)
            self.assertEqual(parting_number(other[:at + 1], one), 3 * 2 ** at)
            self.assertNotEqual(pushed([(0, 3 * 2 ** at)], one), pushed([(0, 3 * 2 ** at)], other))

    def test_values_that_are_no_lists_of_pushes(self):
        for value in NO_PUSHES:
            for pushes in ["", "LR", None]:
                self.check_raises(InvalidPushes, parting_number, value, pushes)
                self.check_raises(InvalidPushes, parting_number, pushes, value)
            self.check_raises(InvalidPushes, parting_number, value, value)


class PointTenTests(unittest.TestCase):
    def test_mountains_are_still(self):
        for tiles in [1, 2, 13, 64, HUGE]:
            for number in range(min(count_mountains(tiles), 8)):
                end = nth_mountain(tiles, number)
                self.assertTrue(is_still(runs_of(end)))
                for side in "LR":
                    self.assertEqual(row_by_list(end, side), end)

    def test_every_mountain_is_an_end(self):
        for row in MOUNTAINS:
            worth = worth_of(runs_of(row))
            if worth <= 10 ** 60:
                self.assertEqual(mountain_after(worth, sides_of(row).replace("?", "R")), row)
            self.assertEqual(nth_mountain(worth, mountain_number(row)), row)


class ListTests(unittest.TestCase):
    def test_results_are_new(self):
        for function, arguments in [(mountain_after, (13, "RLL")), (nth_mountain, (13, 1)), (nth_mountain, (1, 0))]:
            first = function(*arguments)
            kept = list(first)
            first.append("changed")
            self.assertEqual(function(*arguments), kept)

    def test_arguments_stay(self):
        for row in MOUNTAINS:
            before = list(row)
            self.assertEqual(sides_of(row), sides_of(row))
            self.assertEqual(mountain_number(row), mountain_number(row))
            self.assertEqual(row, before)


if __name__ == "__main__":
    unittest.main()
