"""Tests of the interface's section tilepushes/pushlists.py."""

import unittest

from tests.checks import ErrorChecks
from tests.samples import HUGE, NO_INTEGERS, NO_PUSHES, NO_RUNS, NO_SIDES, PUSHES, RUNS, lists_of_pushes
from tilepushes.errors import InvalidIndex, InvalidNumber, InvalidPushes, InvalidRuns, NotPushes, TooLarge
from tilepushes.pushing import pushed
from tilepushes.pushlists import Pushes


class AlwaysEqual:
    def __eq__(self, other):
        return True


NO_OBJECTS = NO_PUSHES + PUSHES + [["L"], [Pushes("L")], (Pushes("L"),), Pushes, AlwaysEqual()]


class PushesTests(ErrorChecks):
    def check_too_large(self, function):
        self.assertEqual(self.check_raises(TooLarge, function).limit, 200)

    def check_new(self, made, sides):
        self.assertIs(type(made), Pushes)
        self.assertEqual(made.written, sides)


class ExampleTests(PushesTests):
    def test_two(self):
        two = Pushes("LR")
        got = [
            (two + Pushes("R")).written, (two * 3).written, (-two).written, two([(0, 7)]), two == Pushes("RL"), two[1],
        ]
        self.assertEqual(got, ["LRR", "LRLRLR", "RL", [(1, 1), (2, 1), (0, 1)], False, "R"])


class WrittenTests(PushesTests):
    def test_the_string(self):
        for sides in PUSHES + lists_of_pushes(5):
            self.assertEqual(Pushes(sides).written, sides)
            self.assertIs(type(Pushes(sides).written), str)

    def test_somewhat_more_than_200_are_no_error(self):
        self.assertEqual(Pushes("LR" * 110).written, "LR" * 110)

    def test_values_that_are_no_lists_of_pushes(self):
        for value in NO_PUSHES + [Pushes("L"), Pushes(""), 1.5, object(), "LR" * 99 + "l"]:
            with self.subTest(str(value)[:60]):
                self.check_raises(InvalidPushes, lambda: Pushes(value))

    def test_it_is_a_property_that_is_not_assigned(self):
        self.assertIsInstance(vars(Pushes)["written"], property)
        pushes = Pushes("LR")
        with self.assertRaises(AttributeError):
            pushes.written = "RR"
        self.assertEqual(pushes.written, "LR")


class SumTests(PushesTests):
    def test_one_behind_the_other(self):
        for one in lists_of_pushes(3):
            for other in lists_of_pushes(3):
                self.check_new(Pushes(one) + Pushes(other), one + other)

    def test_with_itself(self):
        one = Pushes("LLR")
        self.check_new(one + one, "LLRLLR")
        self.check_new(one, "LLR")

    def test_objects_stay_as_they_are(self):
        one, other = Pushes("L"), Pushes("RR")
        total = one + other
        total += one
        self.check_new(total, "LRRL")
        self.check_new(one, "L")
        self.check_new(other, "RR")
        empty = Pushes("")
        self.assertIsNot(one + empty, one)
        self.assertIsNot(empty + one, one)

    def test_200_and_201(self):
        for left in [0, 1, 99, 100, 199, 200]:
            one = Pushes("L" * left)
            self.check_new(one + Pushes("R" * (200 - left)), "L" * left + "R" * (200 - left))
            self.check_too_large(lambda: one + Pushes("R" * (201 - left)))
        self.check_too_large(lambda: Pushes("L" * 200) + Pushes("L" * 200))
        self.check_too_large(lambda: Pushes("L" * 201) + Pushes(""))

    def test_other_values(self):
        for value in NO_OBJECTS:
            for sides in ["", "L", "R" * 200, "R" * 201]:
                with self.subTest(str(value)[:60], many=len(sides)):
                    self.check_raises(NotPushes, lambda: Pushes(sides) + value)


class MultipleTests(PushesTests):
    def test_so_many_times(self):
        for sides in lists_of_pushes(3):
            for number in range(6):
                self.check_new(Pushes(sides) * number, sides * number)

    def test_0_and_1_times(self):
        for sides in PUSHES:
            pushes = Pushes(sides)
            self.check_new(pushes * 0, "")
            self.check_new(pushes * 1, sides)
            self.assertIsNot(pushes * 1, pushes)
            self.check_new(pushes, sides)

    def test_200_and_201(self):
        for sides, number in [("L", 200), ("LR", 100), ("LLRRL", 40), ("R" * 100, 2), ("RL" * 100, 1), ("R" * 200, 0)]:
            self.check_new(Pushes(sides) * number, sides * number)
            if number > 0:
                self.check_too_large(lambda: Pushes(sides) * (number + 1))
        for sides, number in [("L", 201), ("LLL", 67), ("LR", 101), ("R" * 67, 3), ("R" * 201, 1), ("R", HUGE)]:
            self.check_too_large(lambda: Pushes(sides) * number)
        self.check_new(Pushes("R" * 201) * 0, "")

    def test_no_pushes_ever_so_often(self):
        for number in [0, 1, 200, 201, 10 ** 9, HUGE, 10 ** 31 - 1]:
            self.check_new(Pushes("") * number, "")

    def test_other_values(self):
        for value in NO_INTEGERS + [-1, -2, -HUGE, 1.0, 2.5, Pushes("L")]:
            for sides in ["", "L", "R" * 200, "R" * 201]:
                with self.subTest(str(value)[:60], many=len(sides)):
                    self.check_raises(InvalidNumber, lambda: Pushes(sides) * value)

    def test_the_number_stands_behind(self):
        with self.assertRaises(TypeError):
            3 * Pushes("L")


class ExchangedTests(PushesTests):
    def test_each_side(self):
        for sides in PUSHES + lists_of_pushes(4):
            pushes = Pushes(sides)
            self.check_new(-pushes, "".join({"L": "R", "R": "L"}[side] for side in sides))
            self.check_new(-(-pushes), sides)
            self.check_new(pushes, sides)
            self.assertIsNot(-pushes, pushes)

    def test_of_sums_and_multiples(self):
        one, other = Pushes("LLR"), Pushes("RL")
        self.assertEqual(-(one + other), -one + -other)
        self.assertEqual(-(one * 3), -one * 3)


class IndexTests(PushesTests):
    def test_length(self):
        for sides in PUSHES + lists_of_pushes(4):
            self.assertEqual(len(Pushes(sides)), len(sides))

    def test_each_side(self):
        for sides in PUSHES + lists_of_pushes(4):
            pushes = Pushes(sides)
            self.assertEqual([pushes[index] for index in range(len(sides))], list(sides))

    def test_indexes_that_there_are_not(self):
        for sides in PUSHES:
            for index in [-1, -2, -len(sides) - 1, len(sides), len(sides) + 1, HUGE, -HUGE]:
                with self.subTest(sides=sides[:10], index=index):
                    self.check_raises(InvalidIndex, lambda: Pushes(sides)[index])

    def test_values_that_are_no_indexes(self):
        values = [True, False, None, "0", "", "L", 0.0, 1.0, [], [0], (), (0,), (0, 1), {}, {0}, b"", Pushes("L")]
        for value in values + [slice(None), slice(0, 1), slice(0, 2, 2), slice(None, None, -1)]:
            for sides in ["", "L", "LRL"]:
                with self.subTest(str(value), sides=sides):
                    self.check_raises(InvalidIndex, lambda: Pushes(sides)[value])


class ContainsTests(PushesTests):
    def test_sides(self):
        for sides in PUSHES + lists_of_pushes(4):
            for side in "LR":
                self.assertIs(side in Pushes(sides), side in list(sides))

    def test_any_other_value(self):
        for value in NO_SIDES + [Pushes("L"), AlwaysEqual(), 1.5, "LRLR"]:
            for sides in PUSHES:
                with self.subTest(str(value), sides=sides[:10]):
                    self.assertIs(value in Pushes(sides), False)
                    self.assertIs(value not in Pushes(sides), True)


class IterationTests(PushesTests):
    def test_type_error(self):
        for sides in ["", "L", "LR"]:
            for function in [iter, list, tuple, set, sorted, "".join, enumerate, lambda it: [side for side in it]]:
                with self.assertRaises(TypeError):
                    function(Pushes(sides))


class EqualTests(PushesTests):
    def test_the_same_string(self):
        lists = lists_of_pushes(3) + ["LR" * 100, "RL" * 100]
        for one in lists:
            for other in lists:
                self.assertIs(Pushes(one) == Pushes(other), one == other)
                self.assertIs(Pushes(one) != Pushes(other), one != other)

    def test_made_in_different_ways(self):
        self.assertEqual(Pushes("L") + Pushes("R"), Pushes("LR"))
        self.assertEqual(Pushes("LR") * 2, Pushes("LRL") + Pushes("R"))
        self.assertEqual(-Pushes("LR"), Pushes("RL"))
        self.assertEqual(Pushes("LR") * 0, Pushes(""))

    def test_other_values(self):
        for value in NO_OBJECTS:
            for sides in ["", "L", "LR"]:
                with self.subTest(str(value)[:60], sides=sides):
                    self.assertIs(Pushes(sides) == value, False)
                    self.assertIs(Pushes(sides) != value, True)


class CallTests(PushesTests):
    def test_as_pushed(self):
        for sides in PUSHES + lists_of_pushes(4):
            pushes = Pushes(sides)
            for runs in RUNS + [[(0, 7)], [(0, 3), (1, 5), (0, 9)], [(2, HUGE - 1), (3, HUGE + 1)]]:
                before = list(runs)
                result = pushes(runs)
                self.assertEqual(result, pushed(runs, sides))
                self.assertEqual(runs, before)
                self.assertIsNot(result, runs)
                self.check_new(pushes, sides)

    def test_results_are_new(self):
        pushes, runs = Pushes("LR"), [(0, 7)]
        first = pushes(runs)
        first.append("changed")
        runs.append((3, 1))
        self.assertEqual(pushes([(0, 7)]), [(1, 1), (2, 1), (0, 1)])

    def test_wrong_runs(self):
        for value in NO_RUNS:
            for sides in ["", "LR"]:
                with self.subTest(str(value)[:60], sides=sides):
                    self.check_raises(InvalidRuns, lambda: Pushes(sides)(value))


class ErrorTests(PushesTests):
    def test_errors_change_nothing(self):
        pushes = Pushes("LR")
        self.check_raises(NotPushes, lambda: pushes + "L")
        self.check_raises(TooLarge, lambda: pushes + Pushes("L" * 199))
        self.check_raises(InvalidNumber, lambda: pushes * True)
        self.check_raises(TooLarge, lambda: pushes * 101)
        self.check_raises(InvalidIndex, lambda: pushes[2])
        self.check_raises(InvalidRuns, lambda: pushes(None))
        self.check_new(pushes, "LR")


if __name__ == "__main__":
    unittest.main()
