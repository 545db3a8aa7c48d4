"""Tests of the interface's section tilepushes/texts.py and of point 13."""

import random
import re
import unittest
from itertools import product

from tests.checks import ErrorChecks
from tests.samples import (
    HUGE, NO_ROW_TEXTS, NO_ROWS, NO_RUN_TEXTS, NO_RUNS, NO_STRINGS, ROWS, RUNS, runs_by_groups, short_rows,
)
from tilepushes.errors import InvalidRow, InvalidRuns, InvalidText
from tilepushes.rows import row_of, runs_of
from tilepushes.texts import read_row, read_runs, show_row, show_runs

NUMBER = "(0|[1-9][0-9]*)"


def row_by_pattern(text):
    """Return the row of a text, None if there is none, by a pattern."""
    if text == "-":
        return []
    if not re.fullmatch(f"{NUMBER}( {NUMBER})*", text) or max(map(int, text.split())) > 1000:
        return None
    return [int(word) for word in text.split()]


def runs_by_pattern(text):
    """Return the runs of a text, None if there are none, by a pattern."""
    if text == "-":
        return []
    if not re.fullmatch(f"{NUMBER}x[1-9][0-9]*( {NUMBER}x[1-9][0-9]*)*", text):
        return None
    runs = [tuple(int(part) for part in word.split("x")) for word in text.split()]
    if max(level for level, count in runs) > 1000 or any(one[0] == other[0] for one, other in zip(runs, runs[1:])):
        return None
    return runs


class TextTests(ErrorChecks):
    def check_read(self, function, text, expected):
        """Check that a text is read as what is expected, or that there is nothing with this text."""
        if expected is None:
            self.check_raises(InvalidText, function, text)
        else:
            self.assertEqual(function(text), expected)


class ExampleTests(unittest.TestCase):
    def test_example(self):
        got = [show_row([0, 12, 0]), show_runs([(0, 5), (2, 10 ** 30)]), read_row("-"), read_runs("0x2 1x1")]
        self.assertEqual(got, ["0 12 0", "0x5 2x1000000000000000000000000000000", [], [(0, 2), (1, 1)]])


class ShowTests(TextTests):
    def test_rows(self):
        for row, text in [
            ([], "-"), ([0], "0"), ([0, 0], "0 0"), ([1000], "1000"), ([10, 2, 300], "10 2 300"),
            ([7] * 70, "7 " * 69 + "7"),
        ]:
            self.assertEqual(show_row(row), text)

    def test_runs(self):
        for runs, text in [
            ([], "-"), ([(0, 1)], "0x1"), ([(1000, 10)], "1000x10"), ([(3, 2), (2, 3)], "3x2 2x3"),
            ([(0, 1), (1, 1), (0, 1)], "0x1 1x1 0x1"), ([(0, HUGE - 1)], "0x" + "9" * 30),
        ]:
            self.assertEqual(show_runs(runs), text)

    def test_wrong_values(self):
        for row in NO_ROWS + ["0 1", "-"]:
            self.check_raises(InvalidRow, show_row, row)
        for runs in NO_RUNS + ["0x1", "-"]:
            self.check_raises(InvalidRuns, show_runs, runs)

    def test_no_argument_changes(self):
        row, runs = [0, 1], [(0, 2), (1, 1)]
        self.assertEqual((show_row(row), show_row(row)), ("0 1", "0 1"))
        self.assertEqual((show_runs(runs), show_runs(runs)), ("0x2 1x1", "0x2 1x1"))
        self.assertEqual((row, runs), ([0, 1], [(0, 2), (1, 1)]))


class ReadBackTests(unittest.TestCase):
    def test_rows(self):
        chance = random.Random(8)
        rows = short_rows() + ROWS + [[chance.randrange(1001) for _ in range(many)] for many in range(0, 1001, 50)]
        for row in rows:
            text = show_row(row)
            read = read_row(text)
            self.assertEqual(read, row)
            self.assertIs(type(read), list)
            self.assertIsNot(read, row)
            self.assertEqual(show_row(read), text)

    def test_runs(self):
        chance = random.Random(9)
        lists = RUNS + [runs_by_groups(row) for row in short_rows()]
        lists += [[(at * 3, chance.randrange(1, 10 ** 31)) for at in range(many)] for many in range(0, 301, 50)]
        for runs in lists:
            text = show_runs(runs)
            read = read_runs(text)
            self.assertEqual(read, runs)
            self.assertEqual({type(run) for run in read} - {tuple}, set())
            self.assertIsNot(read, runs)
            self.assertEqual(show_runs(read), text)

    def test_great_counts(self):
        for digits in [30, 31, 190]:
            for text in ["0x" + "9" * digits, "1000x1" + "0" * (digits - 1) + " 3x7"]:
                self.assertEqual(show_runs(read_runs(text)), text)
        self.assertEqual(read_runs("2x" + "123456789" * 20), [(2, int("123456789" * 20))])

    def test_a_text_of_all_levels(self):
        for level in range(1001):
            self.assertEqual(read_row(str(level)), [level])
            self.assertEqual(read_runs(f"{level}x{level + 1}"), [(level, level + 1)])

    def test_row_of_and_runs_of_agree(self):
        for text in ["-", "0", "0 0 1", "5 5 5 4 4 5"]:
            self.assertEqual(row_of(read_runs(show_runs(runs_of(read_row(text))))), read_row(text))

    def test_results_are_new(self):
        for function, text, expected in [
            (read_row, "-", []), (read_row, "0 1", [0, 1]), (read_runs, "-", []), (read_runs, "0x1", [(0, 1)]),
        ]:
            first = function(text)
            first.append("changed")
            self.assertEqual(function(text), expected)


class WrongTextTests(TextTests):
    def test_other_values(self):
        for value in NO_STRINGS:
            self.check_raises(InvalidText, read_row, value)
            self.check_raises(InvalidText, read_runs, value)

    def test_strings_that_are_no_texts(self):
        for text in NO_ROW_TEXTS:
            self.check_raises(InvalidText, read_row, text)
        for text in NO_RUN_TEXTS:
            self.check_raises(InvalidText, read_runs, text)

    def test_all_short_strings_against_a_pattern(self):
        for many in range(6):
            for signs in product("01 -x", repeat=many):
                text = "".join(signs)
                self.check_read(read_row, text, row_by_pattern(text))
                self.check_read(read_runs, text, runs_by_pattern(text))

    def test_drawn_strings_against_a_pattern(self):
        chance = random.Random(10)
        for _ in range(3000):
            words = ["".join(chance.choice("00123x") for _ in range(chance.randrange(1, 6))) for _ in range(2)]
            text = chance.choice([" ", " ", " ", "  "]).join(words)
            self.check_read(read_row, text, row_by_pattern(text))
            self.check_read(read_runs, text, runs_by_pattern(text))

    def test_every_other_sign(self):
        for code in list(range(128)) + [0x663, 0xff11, 0x2009]:
            if chr(code) not in "0123456789":
                self.check_read(read_row, "1" + chr(code) + "2", [1, 2] if chr(code) == " " else None)
                self.check_read(read_runs, "1" + chr(code) + "2", [(1, 2)] if chr(code) == "x" else None)


if __name__ == "__main__":
    unittest.main()
