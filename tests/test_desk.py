"""Point 16: a desk beside a board that is told by hand."""

import random
import unittest

from tests.desks import HandBoard, Refused
from tests.drawn import VIEWS, alike, compared, drawn_deed, drawn_text, real, within
from tests.moments import at_once
from touchcaps.board import Board
from touchcaps.desk import answers
from touchcaps.errors import BadLine, Stopped
from touchcaps.rows import row_text

GREAT = 10 ** 40


def line_of(deed):
    """How a desk is asked for a deed."""
    kind, *values = deed
    if kind == "cut":
        return f"cut {'none' if values[0] is None else values[0]}"
    if kind == "frame":
        low, high = ["*" if text is None else text for text in values[1:]]
        return f"frame {values[0]} from {low} .. {high}"
    return " ".join([{"set": "view"}.get(kind, kind), *values])


def words(names):
    return " ".join(names) or "-"


def drawn_request(chance):
    """A line, and what a board told by hand answers to it."""
    number = chance.random()
    if number < 0.6:
        deed = drawn_deed(chance)
        return line_of(deed), lambda hand: "done" if (refused := hand.deeds([deed])) is None else f"refused {refused[1]}"
    name, text = chance.choice(VIEWS), drawn_text(chance)
    known = lambda call: lambda hand: call(hand) if name in hand.views else "refused NoView"
    return chance.choice([
        ("undo", lambda hand: "yes" if hand.undo() else "no"), ("row", lambda hand: words(hand.row)),
        ("common", lambda hand: words(hand.common())), ("unseen", lambda hand: words(hand.unseen())),
        ("doubled", lambda hand: words(hand.doubled(alike))), (f"shown {name}", known(lambda hand: words(hand.shown(name)))),
        (f"above {name}", known(lambda hand: words(hand.above(name)))),
        (f"effect {name} {text}", known(lambda hand: compared(hand.views[name], text))),
    ])


class Desk(unittest.TestCase):

    def test_beside_a_board(self):
        found = set()
        for seed in range(60):
            chance = random.Random(seed)
            requests = [drawn_request(chance) for _ in range(60)]
            hand = HandBoard(within)
            expected = [told(hand) for _, told in requests]
            self.assertEqual(answers("\n".join(line for line, _ in requests)), expected)
            found.update(expected)
        for answer in ["done", "yes", "no", "-", "alike", "within", "around", "neither"]:
            self.assertIn(answer, found)
        for name in ("NoName", "NoView", "NoFrame", "Outside"):
            self.assertIn(f"refused {name}", found)

    def test_beside_the_board_itself(self):
        for seed in range(40):
            chance = random.Random(seed)
            deeds, board, expected = [drawn_deed(chance) for _ in range(40)], Board(), []
            for deed in deeds:
                try:
                    board.attempt((real(deed),))
                    expected.append("done")
                except Stopped as error:
                    expected.append(f"refused {error.raised}")
            asked = ["row", "common", "unseen", "doubled", *[f"shown {name}" for name in board.names]]
            found = answers("\n".join([*[line_of(deed) for deed in deeds], *asked]))
            self.assertEqual(found[:40], expected)
            rows = [board.row, board.common(), board.unseen(), board.doubled(), *[board.shown(name) for name in board.names]]
            self.assertEqual(found[40:], [row_text(row) for row in rows])

    def test_each_request(self):
        lines = [
            ("row", "-"), ("undo", "no"), ("use a", "done"), ("use b", "done"), ("row", "b a"), ("forget a", "done"),
            ("forget a", "refused NoName"), ("do touch x; touch y", "done"), ("row", "y x b"), ("do -", "done"), ("cut 2", "done"),
            ("row", "y x"), ("cut none", "done"), ("use a", "done"), ("row", "a y x"), (f"cut {GREAT}", "done"), ("common", "-"),
            ("unseen", "a x y"), ("view menu cap 2", "done"), ("shown menu", "a y"), ("common", "a y"), ("unseen", "x"),
            ("view all -", "done"), ("above menu", "all"), ("above all", "-"), ("doubled", "-"), ("step all cap 2", "done"),
            ("doubled", "menu"), ("effect all cap 3", "within"), ("effect all -", "within"), ("view both touch a; touch b", "done"),
            ("effect both touch b; touch a", "shuffled"), ("effect both cap 1; touch b; touch a", "around"), ("leave both", "done"),
            ("frame all from * .. cap 3", "done"),
            ("step all touch z", "refused Outside"), ("view all cap 4", "refused Outside"), ("lift menu", "refused NoFrame"),
            ("frame menu from cap 3 .. *", "refused Outside"), ("lift all", "done"), ("view all cap 4", "done"), ("undo", "yes"),
            ("undo", "yes"), ("view all cap 4", "refused Outside"), ("leave all", "done"), ("leave all", "refused NoView"),
            ("lift all", "refused NoView"), ("shown all", "refused NoView"), ("above all", "refused NoView"),
            ("effect all -", "refused NoView"), ("step all cap 1", "refused NoView"), ("frame all from * .. *", "refused NoView"),
            ("undo", "yes"), ("shown all", "a y"), ("frame menu from * .. *", "done"), ("frame menu from cap 1; cap 2 .. -", "done"),
            ("view nothing touch a; cap 1; forget a", "done"), ("shown nothing", "-"), ("common", "-"), ("unseen", "x"),
        ]
        expected = [answer for _, answer in lines]
        self.assertEqual(answers("\n".join(line for line, _ in lines)), expected)

    def test_wrong_lines(self):
        wrong = [
            "", " ", "Row", "row ", " row", "row a", "rows", "undo a", "use", "use ", "use  a", "use a ", "use A", "use a b", "use -",
            "forget", "forget 1", "do", "do ", "do  -", "do touch", "do cap 0", "do (cap 1) x 2", "do touch a;cap 1", "cut", "cut ",
            "cut 0", "cut 01", "cut -1", "cut None", "cut *", "cut 1 ", "view", "view a", "view a ", "view  a -", "view a  -", "view A -",
            "view a: -", "leave", "leave a b", "lift", "step a", "step a -", "step a touch a; cap 1", "step touch a", "step a  cap 1",
            "frame a", "frame a from * ..", "frame a from * .. ", "frame a * .. *", "frame a from *..*", "frame a from *  .. *",
            "frame a from * .. *  ", "frame from * .. *", "frame a from none .. none", "frame a  from * .. *", "frame a from  * .. *",
            "frame a from * .. * .. *", "shown", "shown a b", "above", "above ", "common a", "unseen ", "doubled -", "effect a",
            "effect a ", "effect", "effect a (cap 1) x 1", "set a -", "attempt", "twin", "limit 3", "end", "a: -", "row\t", "r\u043ew",
        ]
        for line in wrong:
            for text, number in [(line, 0), (f"use a\n{line}", 1), (f"row\nforget a\n{line}\n{line}\nrow", 2)]:
                if text == "":
                    continue
                with self.assertRaises(BadLine, msg=repr(line)) as caught:
                    answers(text)
                self.assertEqual(vars(caught.exception), {"number": number})

    def test_texts_that_end_with_a_line_feed(self):
        self.assertEqual(answers(""), [])
        for text, number in [("\n", 0), ("row\n", 1), ("row\nrow\n", 2), ("\nrow", 0), ("row\n\nrow", 1)]:
            with self.assertRaises(BadLine) as caught:
                answers(text)
            self.assertEqual(caught.exception.number, number)

    def test_each_text_has_a_board_of_its_own(self):
        found = answers("use a\nrow")
        self.assertEqual(found, ["done", "a"])
        found.append("more")
        self.assertEqual((answers("row"), answers("use a\nrow")), (["-"], ["done", "a"]))
        self.assertEqual(answers(text="row\nundo"), ["-", "no"])

    def test_the_greatest(self):
        names = [chr(97 + at // 26) + chr(97 + at % 26) for at in range(400)]
        long = "; ".join(f"touch {name}" for name in names[:398])
        self.assertLess(len(long), 4000)
        lines = [f"do {long}", f"view a {long}", f"view b {long}; cap 9", *[f"effect a {long}"] * 10, *["above a"] * 5, *["shown b"] * 42]
        self.assertEqual(len(lines), 60)
        found = at_once(answers, "\n".join(lines))
        self.assertEqual((found[3], found[15], len(found[-1].split(" "))), ("alike", "-", 9))
        deep = "; ".join([f"touch {names[at]}; cap {GREAT - at}" for at in range(30)])
        lines = [f"view {name} {deep}" for name in names[:8]] + [f"effect {name} {deep}" for name in names[:8]] * 6 + ["doubled"] * 4
        found = at_once(answers, "\n".join(lines))
        self.assertEqual((found[10], found[-1]), ("alike", " ".join(names[1:8])))


class Hand(unittest.TestCase):

    def test_the_lines(self):
        self.assertEqual(line_of(("frame", "a", None, "cap 1")), "frame a from * .. cap 1")
        self.assertEqual(line_of(("set", "a", "-")), "view a -")
        with self.assertRaises(Refused):
            HandBoard(within).one("leave", "a")
