"""Point 15: programs beside the rules that they unroll to, and texts of boards."""

import random
import unittest

from tests.drawn import PARTS, drawn_deed, real
from tests.moments import at_once
from tests.outside import is_plain, made, rows_up_to_strangers
from touchcaps.board import Board
from touchcaps.errors import BadLine, BadText, NoFrame, NoName, NoView, Outside, Stopped
from touchcaps.forms import plain
from touchcaps.rules import Rule
from touchcaps.texts import board_in, board_text, program_of

GREAT = 10 ** 40
ROWS = rows_up_to_strangers(("a", "b", "c"), ("v", "w", "x"))
MENU = "d a b\nlimit 4\nmenu: cap 3; cap 4\nother: -\nmenu from cap 1 .. *\nother from * .. *\nend"


def drawn_program(chance, depth):
    """A program and all its steps, one behind another."""
    items, steps = [], []
    for _ in range(chance.randint(1, 3)):
        if depth and chance.random() < 0.5:
            text, inner = drawn_program(chance, depth - 1)
            times = chance.choice([0, 1, 2, 3, 5])
            items.append(f"({text}) x {times}")
            steps.extend(inner * times)
        else:
            items.append(chance.choice(PARTS))
            steps.append(items[-1])
    return "; ".join(items), steps


def nested(text, depth, times):
    for _ in range(depth):
        text = f"({text}) x {times}"
    return text


class Programs(unittest.TestCase):

    def test_beside_what_is_unrolled(self):
        chance = random.Random(173)
        longest = 0
        for _ in range(300):
            text, steps = drawn_program(chance, 3)
            if len(steps) <= 60:
                rule = program_of(text)
                unrolled = "; ".join(steps) or "-"
                self.assertTrue(is_plain(rule.text), text)
                self.assertEqual(rule.text, plain(Rule.of(unrolled)).text)
                self.assertEqual([rule(row) for row in ROWS[::5]], [made(unrolled, row) for row in ROWS[::5]], text)
                longest = max(longest, len(steps))
        self.assertGreater(longest, 40)

    def test_repeats(self):
        for text, expected in [
            ("-", "-"), ("(touch a) x 0", "-"), ("(touch a) x 1", "touch a"), ("cap 3; touch a", "cap 3; touch a"),
            ("(cap 3; touch a) x 1", "cap 3; touch a"), ("(cap 3; touch a) x 2", "forget a; cap 2; touch a"),
            (f"(cap 3; touch a) x {GREAT}", "forget a; cap 2; touch a"), ("((touch a) x 0) x 9", "-"), ("(forget b) x 10", "forget b"),
            ("touch b; (touch a; cap 1) x 0; touch c", "touch b; touch c"), ("((touch a) x 2; cap 2) x 3; cap 1", "touch a; cap 1"),
            (f"(cap {GREAT}) x {GREAT}", f"cap {GREAT}"), ("cap 1; (touch a) x 3", "cap 1; touch a"),
        ]:
            self.assertEqual(program_of(text).text, expected, text)

    def test_bad_programs(self):
        wrong = [
            "", " ", "()", "() x 1", "(-) x 1", "(-)", "-; -", "-; touch a", "touch a; -", "touch a;", "touch a; ", "; touch a",
            "(touch a)", "(touch a; cap 3)", "(touch a) x", "(touch a) x ", "(touch a) x -1", "(touch a) x 01", "(touch a) x 1 ",
            "(touch a)x 1", "(touch a) x1", "(touch a)  x 1", "(touch a) x  1", "(touch a) y 1", "(touch a) X 1", "touch a) x 1",
            "((touch a) x 1", "(touch a) x 1) x 2", "(touch a; ) x 1", "( touch a) x 1", "(touch a ) x 1", "touch a (cap 1) x 1",
            "(touch a) x 1 touch b", "(touch a) x 1;touch b", "(touch a) x 1; ", "(touch a) x 1(cap 1) x 1", "cap 0", "cap 01",
            "touch A", "touch a\n", "(touch a) x 1\n", "(touch a) x \uff11", "[touch a] x 1", "(touch a) x 1.0", "touch a; (", "(", ")",
            "(touch a)) x 1", "(touch a) x 1) x 1", "((touch a) x 1)", "(touch a; (cap 1) x 1) x", "(touch a) * 2",
        ]
        for text in wrong:
            with self.assertRaises(BadText, msg=text) as caught:
                program_of(text)
            self.assertEqual(vars(caught.exception), {})

    def test_twenty_brackets(self):
        for times in (1, 2, GREAT):
            self.assertEqual(program_of(nested("touch a; cap 2", 20, times)), Rule.of("touch a; cap 2"))
        for text in [nested("touch a", 21, 1), nested("touch a", 21, 0), nested("touch a", 22, 2), "(" * 21 + "touch a",
                     f"touch b; {nested('touch a', 21, 3)}; touch c", "(" * 4000, nested("touch a", 300, 1)]:
            with self.assertRaises(BadText):
                at_once(program_of, text)
        beside = "; ".join([nested("touch a", 20, 2), nested("forget b", 20, 3)])
        self.assertEqual(program_of(beside).text, "forget b; touch a")
        inner = f"{nested('touch a', 19, 1)}; {nested('touch b', 19, 1)}"
        self.assertEqual(program_of(f"({inner}) x 1").text, "touch a; touch b")
        with self.assertRaises(BadText):
            program_of(f"(({inner}) x 1) x 1")

    def test_long_programs(self):
        names = [chr(97 + at // 26) + chr(97 + at % 26) for at in range(360)]
        for parts in [
            [f"touch {name}" for name in names], [f"cap {GREAT - at}" for at in range(80)],
            [f"forget {name}; forget z{name}; cap {900 - at}" for at, name in enumerate(names[:110])], ["touch a", "cap 9"] * 210,
        ]:
            text = nested("; ".join(parts), 20, GREAT if len(parts) < 100 else 7)
            self.assertLess(len(text), 5000)
            rule = Rule.of("; ".join(parts))
            self.assertEqual(at_once(program_of, text), rule >> rule)


class BoardTexts(unittest.TestCase):

    def test_there_and_back(self):
        for seed in range(80):
            chance = random.Random(seed)
            board = Board(tuple(chance.sample("abuv", chance.randint(0, 4))))
            for _ in range(25):
                try:
                    board.attempt((real(drawn_deed(chance)),))
                except Stopped:
                    continue
            text = board_text(board)
            found = board_in(text)
            self.assertIs(found == board, True)
            self.assertEqual((board_text(found), found.undo()), (text, False))
            self.assertEqual([found[name].text for name in found.names], [board[name].text for name in board.names])

    def test_texts(self):
        board = Board()
        self.assertEqual(board_text(board), "-\nlimit none\nend")
        board.cut(GREAT)
        board.use("a")
        board["b"], board["a"] = Rule(), Rule.of("cap 2; cap 3")
        self.assertEqual(board_text(board), f"a\nlimit {GREAT}\na: cap 2; cap 3\nb: -\nend")
        board.frame("b", None, Rule.of("touch a; touch a"))
        board.frame("a", Rule.of("cap 1; cap 1"), None)
        self.assertEqual(board_text(board).split("\n")[4:], ["a from cap 1 .. *", "b from * .. touch a", "end"])
        board.frame("b", None, None)
        self.assertEqual(board_text(board).split("\n")[4:], ["a from cap 1 .. *", "b from * .. *", "end"])
        self.assertIs(board_in(board_text(board)) == board, True)

    def test_it_is_a_board(self):
        board = board_in(MENU)
        self.assertEqual((board.row, board.limit, board["menu"].text, board["other"].text), (("d", "a", "b"), 4, "cap 3; cap 4", "-"))
        self.assertEqual(board.frames, (("menu", "cap 1", None), ("other", None, None)))
        self.assertEqual(board_text(board), MENU)
        for call in [lambda: board.forget("x"), lambda: board.leave("x"), lambda: board.lift("x")]:
            with self.assertRaises((NoName, NoView)):
                call()
        with self.assertRaises(Outside):
            board["menu"] = Rule.of("touch q; forget q; forget d")
        board.lift("other")
        with self.assertRaises(NoFrame):
            board.lift("other")
        board.use("x")
        board.use("y")
        self.assertEqual(board.row, ("y", "x", "d", "a"))
        self.assertEqual([board.undo() for _ in range(4)], [True, True, True, False])
        self.assertEqual(board_text(board), MENU)

    def test_each_line(self):
        head = "d a b\nlimit 4\n"
        cases = [
            ("", 0), ("d  a\nlimit none\nend", 0), ("d a d\nlimit none\nend", 0), (" d\nlimit none\nend", 0), ("end", 1),
            ("limit 4\nend", 0), ("d a b", 1), ("-", 1), ("d a b\n", 1), ("d a b\nend", 1), ("d a b\nlimit 2\nend", 1),
            ("d a b\nlimit 0\nend", 1), ("-\nlimit 0\nend", 1), ("-\nlimit 01\nend", 1), ("-\nlimit  1\nend", 1),
            ("-\nlimit -1\nend", 1), ("-\nlimit None\nend", 1), ("-\nlimit \nend", 1), ("-\nlimit 1 \nend", 1), ("-\n1\nend", 1),
            ("-\nnone\nend", 1), ("-\nlimit none \nend", 1), ("-\nLimit 1\nend", 1), ("-\nlimit", 1), ("-\nlimit none", 2),
            (head.strip(), 2), (head, 2), (head + "end\n", 3), (head + "end\nend", 3), (head + "end\nmenu: -", 3), (head + "End", 2),
            (head + " end", 2), (head + "end ", 2), (head + "menu: cap 3", 3), (head + "menu: cap 3\n", 3), (head + "menu: cap 0\nend", 2),
            (head + "menu:cap 3\nend", 2), (head + "menu : cap 3\nend", 2), (head + "menu:  cap 3\nend", 2), (head + "menu: \nend", 2),
            (head + "Menu: cap 3\nend", 2), (head + ": cap 3\nend", 2), (head + "menu: cap 3;\nend", 2), (head + "menu: (cap 3) x 1\nend", 2),
            (head + "b: -\na: -\nend", 3), (head + "b: -\nb: -\nend", 3), (head + "a: -\nb: -\nend\n", 5), (head + "menu: cap 3 \nend", 2),
            (head + "menu from * .. *\nend", 2), (head + "a: -\nb from * .. *\nend", 3), (head + "a: -\na from * .. *\nb: -\nend", 4),
            (head + "a: -\na from * .. *\na from * .. *\nend", 4), (head + "a: -\nb: -\nb from * .. *\na from * .. *\nend", 5),
            (head + "a: cap 2\na from cap 3 .. *\nend", 3), (head + "a: cap 2\na from * .. cap 1\nend", 3),
            (head + "a: cap 2\na from cap 1; cap 1 .. *\nend", 3), (head + "a: cap 2\na from * .. touch b; cap 9\nend", 3),
            (head + "a: cap 2\na from cap 1 .. cap 4; cap 3\nend", 3), (head + "a: cap 2\na from cap 1\nend", 3),
            (head + "a: cap 2\na from cap 1 ..\nend", 3), (head + "a: cap 2\na from cap 1 ..  cap 3\nend", 3), (head + "a: -\na from  .. \nend", 3),
            (head + "a: cap 2\na from none .. *\nend", 3), (head + "a: cap 2\na from * .. ** \nend", 3), (head + "a: -\na from*..*\nend", 3),
            (head + "a: cap 2\na: from * .. *\nend", 3), (head + "a: cap 2\na FROM * .. *\nend", 3), (head + "a: cap 2\na from * .. * .. *\nend", 3),
            (head + "\nend", 2), (head + "a: -\n\nend", 3), ("d a b\n\nlimit 4\nend", 1), ("\n\n", 0), ("-\n\n\n", 1),
        ]
        for text, number in cases:
            with self.assertRaises(BadLine, msg=repr(text)) as caught:
                board_in(text)
            self.assertEqual(vars(caught.exception), {"number": number}, text)

    def test_lines_that_may_stand_there(self):
        for text in [
            "-\nlimit 1\nend", "a\nlimit 1\nend", "a b\nlimit 2\nend", "-\nlimit none\nend: -\nend",
            "-\nlimit none\nfrom: -\nlimit: cap 1\nlimit from * .. cap 1\nend", "end\nlimit none\nend",
            "-\nlimit none\na: touch q; cap 1\na from touch a; cap 1; forget a .. touch q\nend",
            f"-\nlimit {GREAT}\na: cap {GREAT}\na from cap {GREAT - 1} .. cap {GREAT + 1}\nend", MENU,
        ]:
            self.assertEqual(board_text(board_in(text)), text)

    def test_one_letter_more_or_less(self):
        # Whatever is taken is written just so.
        chance = random.Random(179)
        taken = 0
        for _ in range(3000):
            at, sign = chance.randrange(len(MENU)), chance.choice(["", *"a1 :;.*\n-"])
            text = MENU[:at] + sign + MENU[at + chance.randint(0, 1):]
            try:
                found = board_in(text)
            except BadLine as error:
                self.assertLessEqual(error.number, len(text.split("\n")))
            else:
                self.assertEqual(board_text(found), text)
                taken += 1
        self.assertGreater(taken, 100)

    def test_the_greatest(self):
        names = [chr(97 + at // 26) + chr(97 + at % 26) for at in range(300)]
        board = Board(tuple(names))
        for place in range(8):
            name = f"view{'abcdefgh'[place]}"
            board[name] = Rule.of("; ".join([*[f"touch {own}" for own in names[place:place + 40]], *[f"cap {GREAT}"] * 20]))
            board.frame(name, board[name], board[name])
        text = at_once(board_text, board)
        self.assertLess(max(len(line) for line in text.split("\n")), 4000)
        self.assertIs(at_once(board_in, text) == board, True)
        with self.assertRaises(BadLine) as caught:
            at_once(board_in, "\n".join(["x" * 4000] * 60))
        self.assertEqual(caught.exception.number, 1)
