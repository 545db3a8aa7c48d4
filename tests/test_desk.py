"""Tests of the interface's section tilepushes/desk.py and of point 14."""

import random
import unittest

from tests.checks import ErrorChecks
from tests.samples import NO_ROW_TEXTS, NO_STRINGS
from tests.traymodel import TrayModel
from tilepushes.before import count_before
from tilepushes.desk import Desk
from tilepushes.ends import ends_of, fewest_tiles
from tilepushes.errors import InvalidCommand, NoTray, NothingToUndo, TooLarge

COMMANDS = [
    "put 0 L", "put 200 R", "push L", "push LR", "undo", "show", "score", "ends", "fewest", "before L", "before R",
]
NO_COMMANDS = [
    "", " ", "  ", "-", "0", "L", "help", "quit", "redo", "twin", "read 0", "try L", "row0", "rows 0", "Row 0", "ROW 0",
    "row", " row 0", "row\t0", "row\n0", "row 0 L", "row row 0", "row 0 row 0",
    "row " + "0 " * 60 + "0", "row " + "0 " * 69 + "0", "row -" + " -" * 3,
    "put", "put ", "put 1", "put L", "put 1 ", "put  L", "put L 1", "put 1 l", "put 1 r", "put 1 LR", "put 1 X",
    "put 1 1", "put 1 L R", "put 1 2 L", "put 1  L", "put  1 L", " put 1 L", "put 1 L ", "put\t1 L", "put 1\tL",
    "Put 1 L", "PUT 1 L", "put 201 R", "put 202 R", "put 999 L", "put 1000 L", "put 1001 L", "put 10000 L",
    "put " + "9" * 100 + " L", "put 01 R", "put 00 L", "put 0001 L", "put 0200 L", "put -1 L", "put +1 L", "put -0 L",
    "put - L", "put 1_0 L", "put 1.0 L", "put 0x1 L", "put \u0663 L", "put \u00b2 L", "put \uff11 L", "put 1 -",
    "put one L", "put 1L", "put 1 L\n", "push", "push ", "push  ", "push  L", "push L ", " push L", "push L R",
    "push L L", "push l", "push LRl", "push LRX", "push -", "push 0", "push L,R", "push L\n", "push L\tR", "Push L",
    "PUSH L", "pushL", "push " + "LR" * 50 + "x",
    "before", "before ", "before LR", "before l", "before L R", "before L L", "before  L", "before L ", " before L",
    "before -", "before 0", "before X", "before L\n", "Before L", "beforeL",
]
NO_COMMANDS += ["row " + text for text in NO_ROW_TEXTS]
NO_COMMANDS += [
    wrong for word in ["undo", "show", "score", "ends", "fewest"]
    for wrong in [
        word + " ", " " + word, word + "\n", word + " L", word + " 0", word + " -", word + " " + word, word.upper(),
        word.title(), word[:-1], word + "s", word + "  ",
    ]
]
EVERY_TILE = "row " + "0 " * 59 + "0"
TWENTY = "row " + "0 " * 19 + "0"
TWENTY_ONE = "row " + "0 " * 20 + "0"


def text_of(row):
    return " ".join(str(level) for level in row) or "-"


class DeskTests(ErrorChecks):
    def told(self, desk):
        """Return the row and the score that a desk tells."""
        return desk.execute("show"), desk.execute("score")

    def check_too_large(self, desk, command, limit):
        self.assertEqual(self.check_raises(TooLarge, desk.execute, command).limit, limit)


class ExampleTests(unittest.TestCase):
    def test_example(self):
        desk = Desk()
        rows = ["row 0 0 0", "put 1 R", "before L", "ends", "push RL", "show", "score", "undo", "fewest"]
        got = [desk.execute(row) for row in rows]
        self.assertEqual(got, ["ok", "4", "0", "0 2 / 1 0 1", "1 1", "0 2", "6", "ok", "2"])


class ResultTests(DeskTests):
    def check_results(self, first, commands):
        desk = Desk()
        self.assertEqual(desk.execute(first), "ok")
        for command, expected in commands:
            result = desk.execute(command)
            self.assertEqual((command, result), (command, expected))
            self.assertIs(type(result), str)

    def test_each_command(self):
        self.check_results("row 0 0 0 1", [
            ("show", "0 0 0 1"), ("score", "0"), ("before L", "0"), ("before R", "0"), ("fewest", "2"),
            ("ends", "0 2 / 1 0 1"), ("push L", "1"), ("show", "1 0 1"), ("score", "2"), ("before L", "2"),
            ("before R", "2"), ("ends", "1 0 1"), ("fewest", "3"), ("put 1 L", "4"), ("put 200 R", "5"),
            ("show", "1 1 0 1 200"), ("push LLR", "1 0 0"), ("score", "6"), ("undo", "ok"), ("score", "2"),
            ("undo", "ok"), ("undo", "ok"), ("undo", "ok"), ("show", "0 0 0 1"), ("score", "0"),
        ])

    def test_the_empty_row(self):
        self.check_results("row -", [
            ("show", "-"), ("score", "0"), ("ends", "-"), ("fewest", "0"), ("before L", "1"), ("before R", "1"),
            ("push LR", "0 0"), ("show", "-"), ("undo", "ok"), ("put 0 L", "1"), ("show", "0"),
        ])

    def test_levels(self):
        self.check_results("row 200 0 10", [
            ("show", "200 0 10"), ("put 200 L", "4"), ("push R", "1"), ("show", "201 0 10"),
        ])
        self.check_results("row 1000 1000", [
            ("show", "1000 1000"), ("ends", "1001"), ("fewest", "1"), ("push R", "1"), ("show", "1001"),
            ("ends", "1001"), ("fewest", "1"), ("before L", "2"), ("score", str(2 ** 1001)), ("put 0 R", "2"),
            ("show", "1001 0"),
        ])
        self.check_results("row 0", [(f"put {level} R", str(level + 2)) for level in range(59)])
        for level in range(201):
            self.check_results("row -", [(f"put {level} L", "1"), ("show", str(level))])

    def test_two_hundred_pushes(self):
        self.check_results("row 0 0 0 0", [("push " + "LR" * 100, " ".join(["2", "1"] + ["0"] * 198)), ("show", "2")])

    def test_rows_before(self):
        self.check_results("row 1 1", [("before L", "3"), ("before R", "3")])
        self.check_results("row 1 2", [("before L", "3"), ("before R", "4")])
        for side in "LR":
            many = count_before([5] * 60, side)
            self.assertGreater(many, 10 ** 9)
            self.check_results("row" + " 5" * 60, [("before " + side, str(many))])

    def test_sixty_tiles(self):
        self.check_results(EVERY_TILE, [("show", "0 " * 59 + "0"), ("push LLLLL", "30 15 7 3 1"), ("show", "5 4 3 2")])
        desk = Desk()
        desk.execute(EVERY_TILE)
        for command in ["put 0 L", "put 0 R", "put 200 L"]:
            self.check_too_large(desk, command, 60)
        self.assertEqual(self.told(desk), ("0 " * 59 + "0", "0"))

    def test_drawn_commands_against_a_model(self):
        for seed in range(20):
            chance = random.Random(seed)
            desk, model = Desk(), None
            for _ in range(60):
                if model is None or chance.randrange(15) == 0:
                    model = TrayModel([chance.randrange(3) for _ in range(chance.choice([0, 3, 9, 19, 20]))])
                    self.assertEqual(desk.execute("row " + text_of(model.rows[0])), "ok")
                else:
                    self.draw_command(chance, desk, model)
                self.assertEqual(self.told(desk), (text_of(model.rows[-1]), str(model.scores[-1])))

    def draw_command(self, chance, desk, model):
        """Run a command on a desk, and what it means on a model."""
        word = chance.choice(["put", "put", "push", "undo", "ends", "fewest", "before"])
        side, level, row = chance.choice("LR"), chance.randrange(4), model.rows[-1]
        if word == "put":
            self.assertEqual(desk.execute(f"put {level} {side}"), str(model.put(level, side)))
        elif word == "push":
            sides = [chance.choice("LR") for _ in range(chance.randrange(1, 4))]
            expected = " ".join(map(str, model.push_all(sides)))
            self.assertEqual(desk.execute("push " + "".join(sides)), expected)
        elif word == "undo" and len(model.rows) > 1:
            self.assertEqual(desk.execute("undo"), "ok")
            model.undo()
        elif word == "undo":
            self.check_raises(NothingToUndo, desk.execute, "undo")
        elif word == "before":
            self.assertEqual(desk.execute("before " + side), str(count_before(row, side)))
        elif len(row) > 20:
            self.check_too_large(desk, word, 20)
        elif word == "ends":
            self.assertEqual(desk.execute("ends"), " / ".join(text_of(end) for end in ends_of(row)))
        else:
            self.assertEqual(desk.execute("fewest"), str(fewest_tiles(row)))


class RowTests(DeskTests):
    def test_a_new_row_replaces_the_tray(self):
        desk = Desk()
        for _ in range(2):
            desk.execute("row 0 0 3")
            self.assertEqual(self.told(desk), ("0 0 3", "0"))
            self.check_raises(NothingToUndo, desk.execute, "undo")
            desk.execute("push L")
            desk.execute("put 7 L")
            self.assertEqual(self.told(desk), ("7 1 3", "2"))

    def test_the_same_row_again(self):
        desk = Desk()
        desk.execute("row 0 0")
        desk.execute("push L")
        desk.execute("row 1")
        self.assertEqual(self.told(desk), ("1", "0"))
        self.check_raises(NothingToUndo, desk.execute, "undo")


class EndsTests(DeskTests):
    def test_20_and_21_tiles(self):
        desk = Desk()
        desk.execute(TWENTY)
        self.assertEqual((desk.execute("ends"), desk.execute("fewest")), ("2 4 / 4 2", "2"))
        desk.execute("put 1 R")
        for command in ["ends", "fewest"]:
            self.check_too_large(desk, command, 20)
        desk.execute(TWENTY_ONE)
        for command in ["ends", "fewest"]:
            self.check_too_large(desk, command, 20)
        desk.execute("push R")
        self.assertEqual(desk.execute("fewest"), str(fewest_tiles([0] + [1] * 10)))


class WrongCommandTests(DeskTests):
    def test_rows_of_words_that_are_no_commands(self):
        bare, filled = Desk(), Desk()
        filled.execute("row 0 0 0")
        filled.execute("push L")
        for command in NO_COMMANDS:
            self.check_raises(InvalidCommand, bare.execute, command)
            self.check_raises(InvalidCommand, filled.execute, command)
            self.check_raises(NoTray, bare.execute, "show")
            self.assertEqual(self.told(filled), ("1 0", "2"))
        filled.execute("undo")
        self.assertEqual(self.told(filled), ("0 0 0", "0"))
        self.check_raises(NothingToUndo, filled.execute, "undo")

    def test_other_values(self):
        bare, filled = Desk(), Desk()
        filled.execute("row 0 0 0")
        for value in NO_STRINGS + [b"show", ["show"], ("show",), [b"row", b"0"], {"show": "show"}, Desk()]:
            self.check_raises(InvalidCommand, bare.execute, value)
            self.check_raises(InvalidCommand, filled.execute, value)
        self.assertEqual(self.told(filled), ("0 0 0", "0"))

    def test_a_command_that_is_none_comes_before_all_other_errors(self):
        desk = Desk()
        desk.execute(EVERY_TILE)
        for command in ["put 201 L", "put 0 X", "undo ", "ends L", "fewest 0", "row " + "0 " * 60 + "0"]:
            self.check_raises(InvalidCommand, desk.execute, command)
        self.assertEqual(self.told(desk), ("0 " * 59 + "0", "0"))


class NoTrayTests(DeskTests):
    def test_all_but_row_need_one(self):
        desk = Desk()
        for command in COMMANDS * 2:
            self.check_raises(NoTray, desk.execute, command)
        desk.execute("row -")
        self.assertEqual(self.told(desk), ("-", "0"))

    def test_a_desk_with_the_empty_row_has_a_tray(self):
        for command in COMMANDS:
            desk = Desk()
            desk.execute("row -")
            if command == "undo":
                self.check_raises(NothingToUndo, desk.execute, command)
            else:
                self.assertIs(type(desk.execute(command)), str)


class StateTests(DeskTests):
    def test_a_command_that_raises_changes_nothing(self):
        desk = Desk()
        desk.execute(EVERY_TILE)
        desk.execute("push L")
        desk.execute("undo")
        before = self.told(desk)
        for command, expected in [
            ("undo", NothingToUndo), ("put 0 L", TooLarge), ("ends", TooLarge), ("fewest", TooLarge),
            ("row 0 00", InvalidCommand), ("push LX", InvalidCommand), ("put 0 X", InvalidCommand),
        ]:
            for _ in range(2):
                self.check_raises(expected, desk.execute, command)
                self.assertEqual(self.told(desk), before)
        self.check_raises(NothingToUndo, desk.execute, "undo")
        self.assertEqual(desk.execute("push L"), "30")

    def test_questions_change_nothing(self):
        desk = Desk()
        desk.execute("row 0 0 0 1")
        desk.execute("push R")
        for _ in range(2):
            for command in ["show", "score", "ends", "fewest", "before L", "before R"]:
                first = desk.execute(command)
                self.assertEqual(desk.execute(command), first)
        desk.execute("undo")
        self.check_raises(NothingToUndo, desk.execute, "undo")
        self.assertEqual(self.told(desk), ("0 0 0 1", "0"))

    def test_two_desks_beside_one_another(self):
        one, other = Desk(), Desk()
        one.execute("row 0 0")
        self.check_raises(NoTray, other.execute, "show")
        other.execute("row 3")
        one.execute("push L")
        other.execute("put 3 L")
        self.assertEqual((self.told(one), self.told(other)), (("1", "2"), ("3 3", "0")))
        one.execute("undo")
        self.check_raises(NothingToUndo, one.execute, "undo")
        other.execute("push R")
        self.assertEqual((self.told(one), self.told(other)), (("0 0", "0"), ("4", "16")))
        self.check_raises(NoTray, Desk().execute, "show")


if __name__ == "__main__":
    unittest.main()
