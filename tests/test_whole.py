"""Tests of what the document says of the whole program, on a tray and on a desk as for the functions."""

import copy
import unittest

from tests.samples import is_still_row, lists_of_pushes, short_rows
from tilepushes.before import before_number, count_before, nth_before, walk_before
from tilepushes.desk import Desk
from tilepushes.ends import count_pushes, ends_of, fewest_tiles, find_pushes, rows_after
from tilepushes.mountains import (
    count_mountains, is_mountain, mountain_after, mountain_number, nth_mountain, parting_number, sides_of,
)
from tilepushes.origins import height_at, meeting_push, origins
from tilepushes.pushing import is_still, push_row, push_runs, push_steps, pushed, settle, side_matters
from tilepushes.pushlists import Pushes
from tilepushes.rows import is_pushes, is_row, is_runs, mirrored, row_of, runs_of, worth_of
from tilepushes.texts import read_row, read_runs, show_row, show_runs
from tilepushes.trays import ScoreTray, Tray


def walked(row, side):
    return list(walk_before(row, side))


def stepped(runs, pushes):
    return list(push_steps(runs, pushes))


def told_by_tray(row, pushes):
    """Return lists that a tray gives of itself."""
    tray = ScoreTray(row)
    counts = tray.push_all(*pushes)
    rows = [tray.row_now, tray.twin().row_now, tray.try_pushes(pushes)]
    return [counts, rows, list(tray.rows_so_far()), len(tray), tray.greatest_now, tray.score_now]


ROW, RUNS = [1, 1, 0, 2], [(1, 2), (0, 1), (2, 1)]
CALLS = [
    (is_row, ROW), (is_runs, RUNS), (is_pushes, "LR"), (runs_of, ROW), (row_of, RUNS), (mirrored, ROW),
    (worth_of, RUNS), (push_row, ROW, "L"), (push_row, [0, 1], "R"), (push_runs, RUNS, "R"), (pushed, RUNS, "LR"),
    (pushed, RUNS, ""), (stepped, RUNS, "LR"), (stepped, [(0, 1)], "L"), (is_still, RUNS), (side_matters, RUNS),
    (settle, RUNS, "L"), (settle, [(0, 1)], "R"), (Pushes("LR"), RUNS), (Pushes(""), RUNS), (origins, ROW, "LR"),
    (meeting_push, ROW, "LR", 0, 1), (height_at, ROW, "LR", 0), (is_mountain, [0, 1]), (mountain_after, 13, "RLL"),
    (count_mountains, 13), (nth_mountain, 13, 2), (mountain_number, [0, 2, 1]), (sides_of, [0, 2, 1]),
    (parting_number, "L", "LR"), (rows_after, ROW, 0), (rows_after, ROW, 2), (ends_of, ROW), (fewest_tiles, ROW),
    (find_pushes, ROW, [2, 0, 2]), (count_pushes, ROW, [2, 0, 2], 2), (count_before, ROW, "LR"), (walked, ROW, "L"),
    (walked, [0], "R"), (nth_before, ROW, "R", 1), (nth_before, [0], "L", 0), (before_number, [1], "L", [0, 0]),
    (show_row, ROW), (show_runs, RUNS), (read_row, "1 0 2"), (read_row, "-"), (read_runs, "1x2 0x1"),
    (read_runs, "-"), (told_by_tray, ROW, "LR"), (told_by_tray, [], "R"), (told_by_tray, [0, 1], "L"),
]


def lists_in(value):
    """Return all lists in a value."""
    found = [value] if isinstance(value, list) else []
    if isinstance(value, (list, tuple)):
        for each in value:
            found.extend(lists_in(each))
    return found


class ListTests(unittest.TestCase):
    def test_arguments_stay_and_results_are_new(self):
        for function, *arguments in CALLS:
            with self.subTest(str(function), arguments=arguments):
                before = copy.deepcopy(arguments)
                first, second = function(*arguments), function(*arguments)
                kept = copy.deepcopy(first)
                self.assertEqual((arguments, second), (before, kept))
                held = [id(each) for each in lists_in(arguments) + lists_in(first) + lists_in(second)]
                self.assertEqual(len(set(held)), len(held))
                for each in lists_in(first):
                    each.append("changed")
                self.assertEqual(arguments, before)
                self.assertEqual((second, function(*arguments)), (kept, kept))

    def test_a_changed_argument_does_not_change_a_result(self):
        for function, *arguments in CALLS:
            with self.subTest(str(function), arguments=arguments):
                given = copy.deepcopy(arguments)
                result = function(*given)
                kept = copy.deepcopy(result)
                for each in lists_in(given):
                    each.clear()
                self.assertEqual(result, kept)
                self.assertEqual(function(*arguments), kept)

    def test_an_item_of_a_walk_that_is_changed(self):
        walks = [lambda: walk_before([1, 2, 1], "L"), lambda: push_steps([(0, 7)], "LRL"), self.filled().rows_so_far]
        for walk in walks:
            kept = list(walk())
            seen = []
            for item in walk():
                seen.append(list(item))
                item.clear()
            self.assertEqual((seen, list(walk())), (kept, kept))

    def filled(self):
        tray = Tray([0, 0, 0])
        tray.put(1)
        tray.push_all("L")
        return tray


class PushPointTests(unittest.TestCase):
    def pushed_by_desk(self, row, pushes):
        desk = Desk()
        desk.execute("row " + show_row(row))
        desk.execute("push " + pushes)
        return read_row(desk.execute("show"))

    def test_points_7_and_8(self):
        for row in short_rows()[::5]:
            for side in "LR":
                tray = Tray(row)
                tray.push_all(side)
                self.assertEqual(tray.row_now, push_row(row, side))
                self.assertEqual(runs_of(tray.row_now), push_runs(runs_of(row), side))
                self.assertEqual(worth_of(runs_of(tray.row_now)), worth_of(runs_of(row)))
                self.assertEqual(self.pushed_by_desk(row, side), tray.row_now)
                self.assertEqual(len(origins(row, side)), len(tray))

    def test_point_9(self):
        for row in short_rows()[::5]:
            left, right = self.pushed_by_desk(row, "L"), self.pushed_by_desk(row, "R")
            self.assertEqual(left == right == row, is_still_row(row))
            self.assertEqual(left != right, any(count >= 3 and count % 2 for level, count in runs_of(row)))
            self.assertEqual(Tray(row).try_pushes("L") != Tray(row).try_pushes("R"), side_matters(runs_of(row)))

    def test_lists_of_pushes(self):
        for row in short_rows()[::40]:
            for pushes in lists_of_pushes(3)[1:]:
                tray = ScoreTray(row)
                self.assertEqual(sum(tray.push_all(*pushes)), len(row) - len(tray))
                self.assertEqual(tray.row_now, row_of(pushed(runs_of(row), pushes)))
                self.assertEqual(tray.row_now, self.pushed_by_desk(row, pushes))
                self.assertEqual(tray.row_now, Tray(row).try_pushes(pushes))
                self.assertIn(tray.row_now, rows_after(row, len(pushes)))
                self.assertGreater(count_before(tray.row_now, pushes), 0)


class MountainPointTests(unittest.TestCase):
    def test_point_10(self):
        for tiles in range(1, 61):
            many = tiles.bit_length() - 1
            for pushes in [each for each in lists_of_pushes(5) if len(each) == many]:
                tray = Tray([0] * tiles)
                tray.push_all(*pushes)
                row = tray.row_now
                self.assertTrue(is_mountain(row))
                self.assertEqual(row, mountain_after(tiles, pushes))
                self.assertEqual([tray.try_pushes("L"), tray.try_pushes("R")], [row, row])
                self.assertEqual([side for side, told in zip(pushes, sides_of(row)) if told not in ("?", side)], [])

    def test_ends_on_a_desk(self):
        desk = Desk()
        for tiles in range(1, 21):
            desk.execute("row " + show_row([0] * tiles))
            ends = [read_row(text) for text in desk.execute("ends").split(" / ")]
            self.assertEqual(ends, [nth_mountain(tiles, number) for number in range(count_mountains(tiles))])
            self.assertEqual(desk.execute("fewest"), str(bin(tiles).count("1")))

    def test_point_11(self):
        lists = lists_of_pushes(4)
        for one in lists:
            for other in lists:
                parted = parting_number(one, other)
                different = [
                    tiles for tiles in range(1, parted + 1 if parted else 40)
                    if Tray([0] * tiles).try_pushes(one) != Tray([0] * tiles).try_pushes(other)
                ]
                self.assertEqual(different, [parted] if parted else [])


class BeforePointTests(unittest.TestCase):
    def test_point_12(self):
        desk = Desk()
        for row in short_rows()[::3]:
            zeros = any(one == other == 0 for one, other in zip(row, row[1:]))
            desk.execute("row " + show_row(row))
            for side in "LR":
                many = int(desk.execute("before " + side))
                self.assertEqual(many == 0, zeros)
                self.assertEqual(many, len(walked(row, side)))
                for number in sorted({0, many // 2, many - 1}):
                    if 0 <= number < many:
                        tray = Tray(nth_before(row, side, number))
                        tray.push_all(side)
                        self.assertEqual(tray, Tray(row))

    def test_a_row_is_before_what_becomes_of_it(self):
        for row in short_rows()[::6]:
            for side in "LR":
                tray = Tray(row)
                tray.push_all(side)
                number = before_number(tray.row_now, side, row)
                self.assertEqual(nth_before(tray.row_now, side, number), row)


class TextPointTests(unittest.TestCase):
    def test_texts_of_results(self):
        tray = ScoreTray.read("0 0 0 1")
        tray.push_all("R", "L")
        self.assertEqual(show_row(tray.row_now), "0 2")
        self.assertEqual([show_row(end) for end in ends_of(read_row("0 0 0 1"))], ["0 2", "1 0 1"])
        self.assertEqual(show_runs(pushed(read_runs("0x" + "9" * 30), "L")), "1x" + "4" + "9" * 29 + " 0x1")


if __name__ == "__main__":
    unittest.main()
