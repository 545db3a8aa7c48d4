"""Tests of the interface's section tilepushes/trays.py."""

import inspect
import random
import unittest
from itertools import islice

from tests.checks import ErrorChecks
from tests.samples import (
    HUGE, NO_INTEGERS, NO_PUSHES, NO_ROW_TEXTS, NO_ROWS, NO_SIDES, NO_STRINGS, lists_of_pushes, row_by_list,
    row_by_pairs, short_rows,
)
from tests.traymodel import TrayModel
from tilepushes.errors import InvalidLevel, InvalidPushes, InvalidRow, InvalidSide, InvalidText, NothingToUndo, TooLarge
from tilepushes.texts import show_row
from tilepushes.trays import ScoreTray, Tray

KINDS = [Tray, ScoreTray]
NO_LEVELS = NO_INTEGERS + [-1, -2, 201, 202, 1000, 1001, HUGE, -HUGE, 1.0]
FULL = [0, 0, 1, 2, 2, 2] * 10


class TrayTests(ErrorChecks):
    def check_state(self, tray, model):
        """Check all that a tray tells of itself."""
        row = model.rows[-1]
        self.assertEqual(tray.row_now, row)
        self.assertEqual(len(tray), len(row))
        self.assertEqual(tray.greatest_now, max(row) if row else None)
        self.assertEqual(list(tray.rows_so_far()), model.rows)
        if isinstance(tray, ScoreTray):
            self.assertEqual(tray.score_now, model.scores[-1])

    def check_too_large(self, function, *arguments):
        self.assertEqual(self.check_raises(TooLarge, function, *arguments).limit, 60)

    def check_unchanged(self, tray, expected, function):
        """Check that a call raises an error and leaves the tray as it was."""
        rows = list(tray.rows_so_far())
        score = tray.score_now if isinstance(tray, ScoreTray) else None
        self.check_raises(expected, function)
        self.assertEqual(list(tray.rows_so_far()), rows)
        self.assertEqual(tray.row_now, rows[-1])
        if isinstance(tray, ScoreTray):
            self.assertEqual(tray.score_now, score)


class ExampleTests(unittest.TestCase):
    def test_pushes_and_score(self):
        tray = ScoreTray([0, 0, 0])
        got = [tray.put(1), tray.try_pushes("L"), tray.push_all("R", "L"), tray.row_now, tray.score_now]
        self.assertEqual(got + [tray == Tray([0, 2])], [4, [1, 0, 1], [1, 1], [0, 2], 6, True])

    def test_undo(self):
        tray = ScoreTray([0, 0, 0, 1])
        early = [tray.push_all("R", "L"), tray.undo(), tray.row_now, tray.score_now, tray.put(0, side="L")]
        got = [early, list(tray.rows_so_far())]
        self.assertEqual(got, [[[1, 1], None, [0, 0, 0, 1], 0, 5], [[0, 0, 0, 1], [0, 0, 0, 0, 1]]])


class InterfaceTests(unittest.TestCase):
    def test_names_and_kinds(self):
        self.assertEqual((Tray.MOST, ScoreTray.MOST, Tray().MOST), (60, 60, 60))
        self.assertTrue(issubclass(ScoreTray, Tray))
        self.assertFalse(hasattr(Tray, "score_now"))
        for owner, names in [(Tray, ["row_now", "greatest_now"]), (ScoreTray, ["score_now"])]:
            for name in names:
                self.assertIsInstance(vars(owner)[name], property)
        self.assertIsInstance(vars(Tray)["read"], classmethod)

    def test_arguments(self):
        for owner in KINDS:
            self.assertEqual(str(inspect.signature(owner)), "(row=None)")
        self.assertEqual(str(inspect.signature(Tray.put)), "(self, level, *, side='R')")
        self.assertEqual(str(inspect.signature(Tray.push_all)), "(self, *sides)")
        with self.assertRaises(TypeError):
            Tray().put(1, "R")

    def test_properties_are_not_assigned(self):
        tray = ScoreTray([1])
        for name in ["row_now", "greatest_now", "score_now"]:
            with self.assertRaises(AttributeError):
                setattr(tray, name, 3)
        self.assertEqual((tray.row_now, tray.greatest_now, tray.score_now), ([1], 1, 0))


class ConstructorTests(TrayTests):
    def test_rows(self):
        for kind in KINDS:
            for row in short_rows()[::20] + [[1000, 1000], FULL, [200] * 60]:
                self.check_state(kind(row), TrayModel(row))

    def test_none_stands_for_the_empty_row(self):
        for kind in KINDS:
            for tray in [kind(), kind(None), kind([])]:
                self.check_state(tray, TrayModel([]))
                self.assertIsNone(tray.greatest_now)

    def test_new_trays_share_nothing(self):
        one, other = Tray(), Tray()
        one.put(3)
        self.assertEqual((one.row_now, other.row_now, Tray().row_now), ([3], [], []))

    def test_values_that_are_no_rows(self):
        for kind in KINDS:
            for value in NO_ROWS + [[0] * 61 + [True], [0] * 60 + [-1], Tray(), [Tray()], "0 0"]:
                if value is not None:
                    self.check_raises(InvalidRow, kind, value)

    def test_60_and_61_tiles(self):
        for kind in KINDS:
            self.assertEqual(len(kind([7] * 60)), 60)
            for many in [61, 62, 70]:
                self.check_too_large(kind, [7] * many)


class ReadTests(TrayTests):
    def test_texts(self):
        for kind in KINDS:
            for row in short_rows()[::20] + [[1000, 1000], FULL]:
                tray = kind.read(show_row(row))
                self.assertIs(type(tray), kind)
                self.check_state(tray, TrayModel(row))
        self.assertIs(type(ScoreTray([1]).read("0 1")), ScoreTray)

    def test_wrong_texts(self):
        for kind in KINDS:
            for text in NO_STRINGS + NO_ROW_TEXTS + ["0 " * 61, "0 " * 60 + "00"]:
                self.check_raises(InvalidText, kind.read, text)

    def test_60_and_61_tiles(self):
        for kind in KINDS:
            self.assertEqual(kind.read("0 " * 59 + "1000").row_now, [0] * 59 + [1000])
            for many in [61, 62, 100]:
                self.check_too_large(kind.read, show_row([0] * many))


class ModelTests(TrayTests):
    def random_call(self, chance, tray, model):
        """Make one call on a tray and on its model."""
        word = chance.choice(["put", "put", "put", "push", "push", "undo", "try", "none"])
        if word == "put" and len(tray) < 60:
            level, side = chance.choice([0, 0, 0, 1, 1, 2, 200]), chance.choice("LR")
            self.assertEqual(tray.put(level, side=side), model.put(level, side))
        elif word == "push":
            sides = [chance.choice("LR") for _ in range(chance.randrange(1, 13))]
            self.assertEqual(tray.push_all(*sides), model.push_all(sides))
        elif word == "undo" and len(model.rows) > 1:
            self.assertIsNone(tray.undo())
            model.undo()
        elif word == "undo":
            self.check_unchanged(tray, NothingToUndo, tray.undo)
        elif word == "try":
            pushes = "".join(chance.choice("LR") for _ in range(chance.randrange(5)))
            self.assertEqual(tray.try_pushes(pushes), row_by_list(model.rows[-1], pushes))
        else:
            self.assertEqual(tray.push_all(), [])

    def test_call_by_call(self):
        for kind in KINDS:
            for seed in range(25):
                chance = random.Random(seed)
                row = [chance.randrange(3) for _ in range(chance.choice([0, 1, 5, 30, 55, 60]))]
                tray, model = kind(row), TrayModel(row)
                for _ in range(120):
                    self.random_call(chance, tray, model)
                    self.check_state(tray, model)

    def test_twins_call_by_call(self):
        for kind in KINDS:
            for seed in range(10):
                chance = random.Random(100 + seed)
                pairs = [(kind([0, 0, 1, 0]), TrayModel([0, 0, 1, 0]))]
                for _ in range(40):
                    tray, model = chance.choice(pairs)
                    if chance.randrange(8) == 0:
                        pairs.append((tray.twin(), model.twin()))
                        self.assertIs(type(pairs[-1][0]), kind)
                    else:
                        self.random_call(chance, tray, model)
                    for each, other in pairs:
                        self.check_state(each, other)


class PutTests(TrayTests):
    def test_both_ends(self):
        for kind in KINDS:
            tray = kind([5])
            self.assertEqual([tray.put(1), tray.put(2, side="L"), tray.put(200, side="R"), tray.put(0)], [2, 3, 4, 5])
            self.assertEqual(tray.row_now, [2, 5, 1, 200, 0])
            self.assertEqual(tray.greatest_now, 200)

    def test_equal_tiles_are_not_pushed(self):
        tray = ScoreTray([1])
        tray.put(1)
        tray.put(1, side="L")
        self.assertEqual((tray.row_now, tray.score_now), ([1, 1, 1], 0))

    def test_errors_one_by_one(self):
        for kind in KINDS:
            tray = kind([1, 2])
            tray.put(3)
            for level in NO_LEVELS:
                self.check_unchanged(tray, InvalidLevel, lambda: tray.put(level))
            for side in NO_SIDES:
                self.check_unchanged(tray, InvalidSide, lambda: tray.put(3, side=side))
            full = kind(FULL)
            for side in "LR":
                self.check_unchanged(full, TooLarge, lambda: full.put(3, side=side))

    def test_60_and_61_tiles(self):
        for kind in KINDS:
            for side in "LR":
                tray = kind([1] * 59)
                self.assertEqual(tray.put(0, side=side), 60)
                self.check_too_large(lambda: tray.put(0, side=side))
                tray.push_all("L")
                self.assertEqual(tray.put(0, side=side), len(tray))

    def test_order_of_errors(self):
        for kind in KINDS:
            for tray in [kind(), kind(FULL)]:
                for level in NO_LEVELS:
                    for side in ["L", "X", None]:
                        self.check_unchanged(tray, InvalidLevel, lambda: tray.put(level, side=side))
                for side in NO_SIDES:
                    self.check_unchanged(tray, InvalidSide, lambda: tray.put(0, side=side))


class PushTests(TrayTests):
    def test_as_one_change(self):
        for kind in KINDS:
            tray = kind([0] * 7)
            self.assertEqual(tray.push_all("L", "R", "L"), [3, 1, 0])
            self.assertEqual(list(tray.rows_so_far()), [[0] * 7, [1, 2, 0]])
            tray.undo()
            self.assertEqual(tray.row_now, [0] * 7)

    def test_a_change_that_leaves_the_row_as_it_is(self):
        for kind in KINDS:
            for row in [[], [1], [1, 2]]:
                tray = kind(row)
                self.assertEqual([tray.push_all("L"), tray.push_all("R", "R")], [[0], [0, 0]])
                self.assertEqual(list(tray.rows_so_far()), [row] * 3)
                tray.undo()
                tray.undo()
                self.check_unchanged(tray, NothingToUndo, tray.undo)

    def test_without_arguments_nothing_changes(self):
        for kind in KINDS:
            tray = kind([0, 0])
            self.assertEqual(tray.push_all(), [])
            self.check_state(tray, TrayModel([0, 0]))
            self.check_unchanged(tray, NothingToUndo, tray.undo)

    def test_each_side_of_all_short_rows(self):
        for row in short_rows()[::3]:
            for side in "LR":
                tray = ScoreTray(row)
                made = len(row) - len(row_by_pairs(row, side))
                self.assertEqual((tray.push_all(side), tray.row_now), ([made], row_by_pairs(row, side)))

    def test_wrong_sides(self):
        for kind in KINDS:
            tray = kind([0] * 7)
            tray.push_all("L")
            for side in NO_SIDES:
                for behind in [[], ["L"], ["L", "R"], ["L"] * 11]:
                    sides = behind + [side]
                    self.check_unchanged(tray, InvalidSide, lambda: tray.push_all(*sides, "R"))
                    self.check_unchanged(tray, InvalidSide, lambda: tray.push_all(*sides))
            self.assertEqual(tray.row_now, [1, 1, 1, 0])

    def test_beyond_the_greatest_level(self):
        tray = ScoreTray.read("1000 1000")
        self.assertEqual((tray.push_all("L"), tray.row_now, tray.greatest_now), ([1], [1001], 1001))
        self.assertEqual((tray.twin().row_now, tray.try_pushes("L"), tray.score_now), ([1001], [1001], 2 ** 1001))


class UndoTests(TrayTests):
    def test_back_to_the_first_row_and_once_more(self):
        for kind in KINDS:
            tray, model = kind([0, 0, 1]), TrayModel([0, 0, 1])
            for level in range(5):
                self.assertEqual(tray.put(level), model.put(level, "R"))
                self.assertEqual(tray.push_all("L", "R"), model.push_all("LR"))
            for _ in range(10):
                self.assertIsNone(tray.undo())
                model.undo()
                self.check_state(tray, model)
            for _ in range(2):
                self.check_unchanged(tray, NothingToUndo, tray.undo)
            self.assertEqual(tray.put(4), 4)
            self.assertEqual(tray.row_now, [0, 0, 1, 4])

    def test_a_change_after_an_undone_one(self):
        tray = ScoreTray([0, 0, 0])
        tray.push_all("L")
        tray.undo()
        tray.push_all("R")
        self.assertEqual(list(tray.rows_so_far()), [[0, 0, 0], [0, 1]])
        tray.undo()
        self.check_unchanged(tray, NothingToUndo, tray.undo)

    def test_the_score_after_undone_pushes(self):
        tray = ScoreTray([2, 2, 0, 0])
        scores = []
        for sides in ["L", "L", "RR"]:
            tray.push_all(*sides)
            scores.append(tray.score_now)
        tray.put(1)
        tray.push_all("L")
        scores.append(tray.score_now)
        self.assertEqual((scores, tray.row_now), ([10, 10, 10, 14], [3, 2]))
        for score in [10, 10, 10, 10, 0]:
            tray.undo()
            self.assertEqual(tray.score_now, score)


class TryTests(TrayTests):
    def test_all_short_lists(self):
        for kind in KINDS:
            for row in [[], [0] * 7, [0, 0, 0, 1], FULL]:
                tray = kind(row)
                for pushes in lists_of_pushes(4) + ["LR" * 100]:
                    self.assertEqual(tray.try_pushes(pushes), row_by_list(row, pushes))
                self.check_state(tray, TrayModel(row))

    def test_wrong_pushes(self):
        for kind in KINDS:
            tray = kind([0] * 7)
            for pushes in NO_PUSHES:
                self.check_unchanged(tray, InvalidPushes, lambda: tray.try_pushes(pushes))


class WalkTests(TrayTests):
    def filled(self, kind):
        tray = kind([0, 0, 0])
        for level in range(4):
            tray.put(level)
            tray.push_all("L")
        return tray

    def test_a_walk_that_is_left_early(self):
        for kind in KINDS:
            tray = self.filled(kind)
            rows = list(tray.rows_so_far())
            self.assertEqual(len(rows), 9)
            for many in range(9):
                self.assertEqual(list(islice(tray.rows_so_far(), many)), rows[:many])
            self.assertEqual(list(tray.rows_so_far()), rows)

    def test_two_walks_at_the_same_time(self):
        for kind in KINDS:
            tray = self.filled(kind)
            self.assertEqual([one == other for one, other in zip(tray.rows_so_far(), tray.rows_so_far())], [True] * 9)
            rows = list(tray.rows_so_far())
            one, other = tray.rows_so_far(), tray.rows_so_far()
            self.assertEqual([next(one), next(one), next(other)], [rows[0], rows[1], rows[0]])
            self.assertEqual([list(one), list(other)], [rows[2:], rows[1:]])

    def test_an_undo_after_a_walk(self):
        tray = self.filled(Tray)
        rows = list(tray.rows_so_far())
        tray.undo()
        self.assertEqual(list(tray.rows_so_far()), rows[:-1])


class TwinTests(TrayTests):
    def test_same_state_and_same_changes_to_undo(self):
        for kind in KINDS:
            tray, model = kind([0, 0, 1]), TrayModel([0, 0, 1])
            for sides in ["L", "LR"]:
                tray.push_all(*sides)
                model.push_all(sides)
            twin = tray.twin()
            self.assertIs(type(twin), kind)
            self.assertIsNot(twin, tray)
            self.assertEqual(twin, tray)
            while len(model.rows) > 1:
                self.check_state(twin, model)
                twin.undo()
                model.undo()
            self.check_unchanged(twin, NothingToUndo, twin.undo)

    def test_independent_in_both_directions(self):
        for kind in KINDS:
            for number in (0, 1):
                tray = kind([0, 0, 1])
                tray.push_all("L")
                both = [tray, tray.twin()]
                model = TrayModel([0, 0, 1])
                model.push_all("L")
                changed, kept = both[number], both[1 - number]
                changed.put(5)
                changed.push_all("L")
                self.check_state(kept, model)
                for _ in range(3):
                    changed.undo()
                self.check_unchanged(changed, NothingToUndo, changed.undo)
                self.check_state(kept, model)
                kept.undo()
                self.assertEqual(kept.row_now, [0, 0, 1])

    def test_a_twin_of_a_twin(self):
        tray = ScoreTray([1, 1])
        tray.push_all("L")
        twin = tray.twin().twin()
        tray.undo()
        self.assertEqual((twin.row_now, twin.score_now, tray.score_now), ([2], 4, 0))


class EqualTests(TrayTests):
    def test_trays_of_both_kinds(self):
        for one in KINDS:
            for other in KINDS:
                for row in [[], [0], [0, 1]]:
                    self.assertIs(one(row) == other(list(row)), True)
                    self.assertIs(one(row) != other(list(row)), False)
                    self.assertIs(one(row) == other(row + [0]), False)
                    self.assertIs(one(row) != other(row + [0]), True)
                self.assertIs(one([0, 1]) == other([1, 0]), False)

    def test_only_the_row_counts(self):
        pushed = ScoreTray([0, 0])
        pushed.push_all("L")
        self.assertEqual(pushed, ScoreTray([1]))
        self.assertEqual(Tray([1]), pushed)
        pushed.undo()
        self.assertNotEqual(pushed, ScoreTray([1]))

    def test_values_that_are_no_trays(self):
        values = NO_INTEGERS + NO_ROWS + [[], [0], [[]], (), "-", "0", Tray, ScoreTray, TrayModel([]), [Tray()]]
        for kind in KINDS:
            for tray in [kind(), kind([0]), kind([0, 1])]:
                for value in values:
                    self.assertIs(tray == value, False)
                    self.assertIs(tray != value, True)

    def test_length(self):
        for kind in KINDS:
            for many in [0, 1, 59, 60]:
                self.assertEqual(len(kind([0] * many)), many)


class ListTests(TrayTests):
    def test_a_passed_row_that_is_changed_later(self):
        for kind in KINDS:
            row = [0, 0, 1]
            tray = kind(row)
            row.append(9)
            self.check_state(tray, TrayModel([0, 0, 1]))
            tray.push_all("L")
            self.assertEqual(row, [0, 0, 1, 9])

    def test_returned_rows_that_are_changed(self):
        for kind in KINDS:
            for row in [[], [3], [0, 0, 1]]:
                tray, model = kind(row), TrayModel(row)
                for _ in range(2):
                    tray.push_all("L")
                    model.push_all("L")
                    tray.put(2)
                    model.put(2, "R")
                twin = tray.twin()
                results = [tray.row_now, tray.try_pushes(""), tray.try_pushes("LR"), twin.row_now, twin.try_pushes("")]
                results += list(tray.rows_so_far()) + list(twin.rows_so_far()) + [tray.push_all(), tray.row_now]
                self.assertEqual(len({id(result) for result in results}), len(results))
                for result in results:
                    result.append("changed")
                self.check_state(tray, model)
                self.check_state(twin, model)
                tray.undo()
                model.undo()
                self.check_state(tray, model)

    def test_returned_counts_that_are_changed(self):
        tray = ScoreTray([0, 0])
        tray.push_all("L").append("changed")
        self.assertEqual((tray.row_now, tray.score_now), ([1], 2))
        tray.undo()
        self.assertEqual(tray.push_all("L"), [1])


if __name__ == "__main__":
    unittest.main()
