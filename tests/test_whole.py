"""Point 1: what the parts promise, used together through a Board and a desk."""

import random
import unittest
from itertools import product

from tests.drawn import ROWS, alike, compared, drawn_text, seen
from tests.outside import made
from tests.small import small_texts
from touchcaps.behind import front_of, meeting, rest_of, settles
from touchcaps.board import Board
from touchcaps.costs import cheapest, fewest, further
from touchcaps.desk import answers
from touchcaps.devices import how_many_joined, joined_by, nth_joined, order_to
from touchcaps.errors import Outside
from touchcaps.forms import by_form, form_of, plain, rule_of
from touchcaps.known import can_come, is_ahead, lengths, was_there
from touchcaps.longs import Long
from touchcaps.numbers import how_many, nth
from touchcaps.order import above, climb, greatest_within, height, least_around, outside_row, parting_row
from touchcaps.rules import Rule
from touchcaps.tells import Hunt, in_order
from touchcaps.texts import board_in, board_text, program_of

SMALL = small_texts(("a", "b"), 2)


class ThroughADesk(unittest.TestCase):

    def test_what_rules_do(self):
        # (a), (c): a row of steps, a Rule, its FORM, a program and a desk make the same of all ROWs.
        for text in SMALL[::3]:
            rule = Rule.of(text)
            for row in ROWS[::23]:
                lines = [f"use {name}" for name in row[::-1]]
                expected = " ".join(made(text, row)) or "-"
                self.assertEqual(answers("\n".join([*lines, f"do {text}", "row"]))[-1], expected)
                self.assertEqual(answers("\n".join([*lines, f"view own {text}", "shown own"]))[-1], expected)
                self.assertEqual(" ".join(by_form(form_of(rule), row)) or "-", expected)
                self.assertEqual(program_of(f"({text}) x 1")(row) if text != "-" else row, made(text, row))

    def test_how_rules_compare(self):
        # (b): for all ROWs, and where it is not so a ROW shows it.
        for one, other in product(SMALL[::4], repeat=2):
            found = answers(f"view own {one}\neffect own {other}\nview other {other}\nabove own\ndoubled")
            self.assertEqual(found[1], compared(one, other))
            self.assertEqual(found[3], "other" if seen(one).within(seen(other)) else "-")
            self.assertEqual(found[4], "own" if alike(one, other) else "-")
            row = outside_row(Rule.of(one), Rule.of(other))
            if row is not None:
                board = Board(row)
                board["own"], board["other"] = Rule.of(one), Rule.of(other)
                self.assertTrue(set(board.shown("own")) - set(board.shown("other")))
            row = parting_row(Rule.of(one), Rule.of(other))
            if row is not None:
                self.assertNotEqual(made(one, row), made(other, row))


class ThroughABoard(unittest.TestCase):

    def test_alike_views(self):
        chance = random.Random(181)
        for _ in range(60):
            text = drawn_text(chance)
            rule, board = Rule.of(text), Board(("a", "u", "b", "v", "c"))
            own = [rule, plain(rule), rule_of(form_of(rule)), fewest(rule), cheapest(rule, {"touch": 3, "forget": 2, "cap": 1}),
                   rule >> further(rule, rule), rule * 1]
            for name, view in zip("abcdefg", own):
                board[name] = view
                self.assertEqual(board.shown(name), made(text, board.row))
            self.assertEqual(board.doubled(), tuple("bcdefg"))
            self.assertIs(board_in(board_text(board)) == board, True)

    def test_rows_are_taken_apart(self):
        # (c): p and then the rest of it, and what is done twice is done as often as one likes.
        chance = random.Random(191)
        for _ in range(80):
            p, x = Rule.of(drawn_text(chance)), Rule.of(drawn_text(chance))
            whole, row = p >> x, chance.choice(ROWS)
            for steps in ([p, rest_of(p, whole)], [front_of(x, whole), x], [p, further(p, whole)], [whole]):
                board = Board(row)
                for step in steps:
                    board.do(step)
                self.assertEqual(board.row, made(f"{whole.text}" if len(whole) else "-", row))
            board = Board(row)
            for _ in range(settles(p)):
                board.do(p)
            self.assertEqual(board.row, (p * 10 ** 40)(row))
            pair = meeting(p, x)
            if pair is not None:
                self.assertEqual((p >> pair[0])(row), (x >> pair[1])(row))

    def test_frames_by_the_order(self):
        # (b): from the greatest one within two views to the least one around them.
        chance = random.Random(193)
        tried = 0
        for _ in range(60):
            names = ("a", "b")
            one, other = [nth(names, chance.randint(1, 3), number * 5 + 2) for number in chance.sample(range(5), 2)]
            if sorted(form_of(one)[0]) != sorted(form_of(other)[0]):
                continue
            for low, high in product(greatest_within((one, other)), least_around((one, other))):
                board = Board()
                board["one"], board["other"] = one, other
                for name in board.names:
                    board.frame(name, low, high)
                for rule in climb(low, high):
                    board["one"] = rule
                    tried += 1
                self.assertEqual(height(board["one"]), height(high))
                for rule in above(high):
                    with self.assertRaises(Outside):
                        board["one"] = rule
        self.assertGreater(tried, 20)

    def test_numbered_views(self):
        board = Board()
        for number in range(how_many(1)):
            board[f"view{'abcd'[number]}"] = nth(("a",), 2, number)
        self.assertEqual((len(board), board.doubled()), (4, ()))

    def test_what_undo_leads_back_to(self):
        # (d): the ROW that undo brings back is one of those that were told.
        chance = random.Random(197)
        for _ in range(200):
            text, row = drawn_text(chance), chance.choice(ROWS)
            rule, board = Rule.of(text), Board(row)
            board.do(rule)
            out = board.row
            told = {name: was_there(rule, out, name, length=len(row)) for name in "abcuvwx"}
            self.assertIs(board.undo(), True)
            self.assertIs(is_ahead(rule, out, board.row), True)
            self.assertIs(can_come(rule, out), True)
            least, most = lengths(rule, out)
            self.assertTrue(least <= len(row) and (most is None or len(row) <= most))
            for name, answer in told.items():
                self.assertNotEqual(answer, "no" if name in board.row else "yes")

    def test_a_rule_is_told_back(self):
        # (e): a Hunt that asks a view of a Board.
        for text in SMALL:
            rule = Rule.of(text)
            for order in (("a", "b"), ("b", "a")):
                if in_order(rule, order):
                    hunt = Hunt(order, 2)
                    while hunt.rule is None:
                        board = Board(hunt.ask)
                        board["view"] = rule
                        hunt.tell(board.shown("view"))
                    self.assertEqual(hunt.rule.text, text)

    def test_several_devices(self):
        # (f): each joined ROW is what a Board comes to by such uses.
        devices, row = (("a", "b"), ("b", "c"), ("d",)), ("x", "c", "y")
        for cap in (None, 1, 2, 4):
            for number in range(how_many_joined(devices, row, cap=cap)):
                joined = nth_joined(devices, row, number, cap=cap)
                order = order_to(devices, row, joined, cap=cap)
                board, left = Board(row), [list(own) for own in devices]
                for device in order:
                    board.use(left[device].pop())
                    if cap is not None:
                        board.cut(cap)
                        board.cut(None)
                self.assertEqual(board.row, joined)
                self.assertEqual(joined_by(devices, row, order, cap=cap), joined)

    def test_great_lists(self):
        # (f): a Long beside the row of a Board.
        chance = random.Random(199)
        for _ in range(100):
            board, row = Board(), chance.choice(ROWS)
            board.attempt([("use", name) for name in row[::-1]])
            long = Long(len(row), [(name, row.index(name)) for name in "abc" if name in row])
            rule = Rule.of(drawn_text(chance))
            board.do(rule)
            after = long.after(rule)
            self.assertEqual(after.size, len(board.row))
            self.assertEqual(list(after.places), sorted((name, board.row.index(name)) for name in "abc" if name in board.row))
            self.assertEqual(long.lost(rule), len(set(row) - set(board.row)))
