"""Point 14: a board, deed by deed beside one that is told by hand."""

import random
import unittest

from tests.desks import HandBoard, Refused
from tests.drawn import NAMES, VIEWS, alike, compared, drawn_deed, drawn_text, real, within
from tests.moments import at_once
from tests.things import other_things
from touchcaps.board import Board
from touchcaps.errors import NoFrame, NoName, NoView, Outside, Stopped
from touchcaps.forms import plain
from touchcaps.rules import Rule
from touchcaps.steps import Step

GREAT = 10 ** 40


def do_one(board, deed):
    """Does a deed by the method or the sign that the board has for it."""
    kind, *values = real(deed)
    if kind == "set":
        board[values[0]] = values[1]
        return None
    if kind == "step":
        same = board
        board += tuple(values)
        if board is not same:
            raise AssertionError("another Board")
        return None
    methods = {"use": board.use, "forget": board.forget, "do": board.do, "cut": board.cut, "leave": board.leave,
               "frame": board.frame, "lift": board.lift}
    return methods[kind](*values)


def outcome(call):
    """None, or the class of an error and what it keeps."""
    try:
        return call()
    except (NoName, NoView, NoFrame, Outside) as error:
        return type(error).__name__, vars(error)


def shown_state(board):
    """All that a Board tells of its state."""
    views = {name: board[name].text for name in board.names}
    return board.row, board.limit, views, board.frames


class Beside(unittest.TestCase):

    def same(self, board, hand):
        ends = [(name, *[text if text is None else plain(Rule.of(text)).text for text in own])
                for name, own in sorted(hand.frames.items())]
        self.assertEqual(shown_state(board), (hand.row, hand.limit, hand.views, tuple(ends)))
        self.assertEqual((len(board), board.names), (len(hand.views), tuple(sorted(hand.views))))
        self.assertEqual([name in board for name in VIEWS], [name in hand.views for name in VIEWS])

    def asked(self, board, hand, text):
        """What is asked changes nothing."""
        self.assertEqual(board.common(), hand.common())
        self.assertEqual(board.unseen(), hand.unseen())
        self.assertEqual(board.doubled(), hand.doubled(alike))
        for name in VIEWS:
            if name in hand.views:
                self.assertEqual(board.shown(name), hand.shown(name))
                self.assertEqual(board.above(name), hand.above(name))
                self.assertEqual(board.effect(name, Rule.of(text)), compared(hand.views[name], text))
            else:
                for call in (board.shown, board.above, lambda own: board.effect(own, Rule()), lambda own: board[own]):
                    self.assertEqual(outcome(lambda: call(name)), ("NoView", {"name": name}))
        self.same(board, hand)

    def one_deed(self, board, hand, deed):
        before = shown_state(board)
        refused = hand.deeds([deed])
        expected = None if refused is None else (refused[1], {"name": refused[2]})
        self.assertEqual(outcome(lambda: do_one(board, deed)), expected, deed)
        if refused is not None:
            self.assertEqual(shown_state(board), before)
        return refused is not None

    def attempted(self, board, hand, deeds):
        before = shown_state(board)
        refused = hand.deeds(deeds)
        if refused is None:
            self.assertIsNone(board.attempt(tuple(real(deed) for deed in deeds)))
            return False
        with self.assertRaises(Stopped) as caught:
            board.attempt([list(real(deed)) for deed in deeds])
        self.assertEqual(vars(caught.exception), dict(zip(("number", "raised", "value"), refused)))
        self.assertEqual(shown_state(board), before)
        return True

    def test_deed_by_deed(self):
        refused = attempts = undone = 0
        for seed in range(60):
            chance = random.Random(seed)
            row = tuple(chance.sample(("a", "b", "c", "u", "v"), chance.randint(0, 5)))
            board, hand = Board(row), HandBoard(within, row)
            for _ in range(40):
                number = chance.random()
                if number < 0.15:
                    done = hand.undo()
                    self.assertIs(board.undo(), done)
                    undone += done
                elif number < 0.35:
                    stopped = self.attempted(board, hand, [drawn_deed(chance) for _ in range(chance.randint(0, 4))])
                    refused, attempts = refused + stopped, attempts + 1
                else:
                    refused += self.one_deed(board, hand, drawn_deed(chance))
                self.same(board, hand)
                if chance.random() < 0.3:
                    self.asked(board, hand, drawn_text(chance))
            while hand.undo():
                self.assertIs(board.undo(), True)
                self.same(board, hand)
            self.assertIs(board.undo(), False)
            self.assertEqual((board.row, board.limit, len(board)), (row, None, 0))
        self.assertGreater(min(refused, attempts, undone), 200)

    def test_twins(self):
        for seed in range(20):
            chance = random.Random(seed)
            board, hand = Board(("a", "u")), HandBoard(within, ("a", "u"))
            for _ in range(15):
                self.one_deed(board, hand, drawn_deed(chance))
            twin, other = board.twin(), HandBoard(within)
            other.take(hand.state())
            other.earlier = list(hand.earlier)
            self.assertIs(twin == board, True)
            for _ in range(15):
                one, beside = (board, hand) if chance.random() < 0.5 else (twin, other)
                if chance.random() < 0.3:
                    self.assertIs(one.undo(), beside.undo())
                else:
                    self.one_deed(one, beside, drawn_deed(chance))
                self.same(board, hand)
                self.same(twin, other)
            while other.undo():
                self.assertIs(twin.undo(), True)
            self.assertIs(twin.undo(), False)
            self.same(board, hand)


class Deeds(unittest.TestCase):

    def filled(self):
        board = Board(("d", "a", "b", "c", "e"))
        board.cut(5)
        board["menu"], board["start"] = Rule.of("cap 3"), Rule.of("forget a; cap 2")
        board.frame("menu", Rule.of("cap 1"), Rule.of("cap 4"))
        return board

    def test_what_each_deed_returns_and_takes_back(self):
        deeds = [
            ("use", "x"), ("use", "d"), ("forget", "a"), ("do", "cap 2"), ("do", "-"), ("cut", 2), ("cut", None), ("cut", 5),
            ("cut", GREAT), ("set", "menu", "cap 3"), ("set", "new", "-"), ("set", "menu", "cap 2"), ("leave", "menu"),
            ("leave", "start"), ("step", "start", "cap 1"), ("step", "menu", "cap 3"), ("frame", "start", None, None),
            ("frame", "menu", None, "cap 3"), ("lift", "menu"),
        ]
        for deed in deeds:
            board, before = self.filled(), self.filled()
            self.assertIsNone(do_one(board, deed), deed)
            other = self.filled()
            self.assertIsNone(other.attempt((real(deed),)))
            self.assertEqual(shown_state(board), shown_state(other))
            self.assertIs(board.undo(), True)
            self.assertEqual(shown_state(board), shown_state(before), deed)
            # What changes nothing is a deed, too: so the next one is that ahead of it.
            self.assertIs(board.undo(), True)
            self.assertEqual(board.frames, ())

    def test_what_is_refused(self):
        cases = [
            (("forget", "x"), "NoName", "x"), (("leave", "x"), "NoView", "x"), (("step", "x", "cap 1"), "NoView", "x"),
            (("frame", "x", None, None), "NoView", "x"), (("lift", "x"), "NoView", "x"), (("lift", "start"), "NoFrame", "start"),
            (("set", "menu", "cap 5"), "Outside", "menu"), (("set", "menu", "touch a; cap 1"), "Outside", "menu"),
            (("step", "menu", "forget a"), "Outside", "menu"), (("step", "menu", "touch z"), "Outside", "menu"),
            (("frame", "start", "cap 1", None), "Outside", "start"), (("frame", "start", None, "cap 1"), "Outside", "start"),
            (("frame", "menu", "cap 4", None), "Outside", "menu"),
        ]
        for deed, raised, name in cases:
            board = self.filled()
            before = shown_state(board)
            self.assertEqual(outcome(lambda: do_one(board, deed)), (raised, {"name": name}), deed)
            self.assertEqual(shown_state(board), before)
            for deeds, number in [((deed,), 0), ((("use", "q"), ("cut", 1), deed, ("leave", "y")), 2)]:
                with self.assertRaises(Stopped) as caught:
                    board.attempt(tuple(real(own) for own in deeds))
                self.assertEqual(vars(caught.exception), {"number": number, "raised": raised, "value": name})
                self.assertEqual(shown_state(board), before)
            # What is refused is nothing that undo takes back.
            self.assertIs(board.undo(), True)
            self.assertEqual((board.frames, board.names), ((), ("menu", "start")))

    def test_an_attempt_of_no_deeds(self):
        board = Board(("a",))
        for deeds in ((), []):
            self.assertIsNone(board.attempt(deeds))
        self.assertEqual([board.undo() for _ in range(3)], [True, True, False])
        self.assertEqual(board.row, ("a",))

    def test_an_attempt_is_one_deed(self):
        board = Board(("a", "b"))
        board.use("c")
        board.attempt((("use", "d"), ("cut", 2), ("set", "view", Rule()), ("frame", "view", None, None)))
        self.assertEqual((board.row, board.limit, board.frames), (("d", "c"), 2, (("view", None, None),)))
        self.assertIs(board.undo(), True)
        self.assertEqual((board.row, board.limit, len(board), board.frames), (("c", "a", "b"), None, 0, ()))
        self.assertEqual([board.undo(), board.undo()], [True, False])

    def test_frames(self):
        board = self.filled()
        self.assertEqual(board.frames, (("menu", "cap 1", "cap 4"),))
        board["menu"] = Rule.of("cap 4")
        board["menu"] = Rule.of("cap 1")
        board.frame("menu", Rule.of("touch a; cap 1; forget a"), Rule.of("touch a; touch a; cap 9"))
        self.assertEqual(board.frames, (("menu", "touch a; cap 1; forget a", "forget a; cap 8; touch a"),))
        board.frame("menu", None, None)
        board.frame("start", None, Rule.of("cap 3; cap 4"))
        self.assertEqual(board.frames, (("menu", None, None), ("start", None, "cap 3")))
        board["menu"] = Rule.of("touch q")
        board.leave("menu")
        board["menu"] = Rule()
        self.assertEqual(board.frames, (("start", None, "cap 3"),))
        self.assertEqual(outcome(lambda: board.lift("menu")), ("NoFrame", {"name": "menu"}))
        self.assertIsNone(board.lift("start"))
        self.assertEqual(board.frames, ())

    def test_limits(self):
        board = Board(("a", "b", "c", "d"))
        board.do(Rule.of("touch e"))
        self.assertEqual(board.row, ("e", "a", "b", "c", "d"))
        board.cut(GREAT)
        board.cut(3)
        self.assertEqual((board.row, board.limit), (("e", "a", "b"), 3))
        board.do(Rule.of("touch x; touch y; touch e"))
        self.assertEqual(board.row, ("e", "y", "x"))
        board.use("x")
        self.assertEqual(board.row, ("x", "e", "y"))
        board.cut(None)
        board.use("z")
        self.assertEqual((board.row, board.limit), (("z", "x", "e", "y"), None))

    def test_without_views(self):
        board = Board(("b", "a"))
        self.assertEqual((board.common(), board.unseen(), board.doubled(), board.names, board.frames), ((), ("a", "b"), (), (), ()))
        self.assertEqual((len(board), "a" in board, Board().row, Board().limit, Board().unseen()), (0, False, (), None, ()))

    def test_doubled(self):
        board = Board()
        board["c"], board["b"], board["a"] = Rule.of("cap 2"), Rule.of("cap 3; cap 2"), Rule.of("cap 3")
        self.assertEqual((board.doubled(), board.above("b"), board.above("a")), (("c",), ("a", "c"), ()))
        board["a"] = Rule.of("cap 2; cap 2")
        self.assertEqual((board.doubled(), board.above("a")), (("b", "c"), ("b", "c")))


class Boards(unittest.TestCase):

    def test_equal(self):
        board, other = Deeds().filled(), Deeds().filled()
        self.assertIs(board == other, True)
        other["start"] = Rule.of("forget a; forget a; cap 2; cap 9")
        other.frame("menu", Rule.of("cap 2; cap 1"), Rule.of("cap 4; cap 4"))
        self.assertIs(board == other, True)
        self.assertIs(other.twin() == board, True)
        for deed in [
            ("use", "x"), ("use", "a"), ("cut", 6), ("cut", None), ("set", "new", "-"), ("leave", "start"), ("lift", "menu"),
            ("set", "start", "forget a; cap 1"), ("frame", "menu", "cap 1", None), ("frame", "menu", None, "cap 4"),
            ("frame", "start", None, None), ("frame", "menu", None, None),
        ]:
            other = board.twin()
            do_one(other, deed)
            self.assertIs(board == other, False, deed)
            self.assertIs(board != other, True)
            other.undo()
            self.assertIs(board == other, True)

    def test_equal_to_nothing_else(self):
        for thing in [*other_things(), (("a",), None, {}, {}), Rule(), {}]:
            self.assertIs(Board() == thing, False)
            self.assertIs(thing == Board(), False)

    def test_it_can_not_be_gone_through(self):
        board = Deeds().filled()
        for call in (iter, list, tuple, sorted, set, lambda own: [one for one in own], lambda own: [*own]):
            with self.assertRaises(TypeError):
                call(board)

    def test_properties_have_no_setters(self):
        for name in ("row", "limit", "names", "frames"):
            with self.assertRaises(AttributeError):
                setattr(Board(), name, None)

    def test_it_copies_its_arguments(self):
        row, deed = ["b", "a"], ["set", "view", Rule.of("cap 1")]
        board, deeds = Board(row), []
        deeds.append(deed)
        board.attempt(deeds)
        row.append("c")
        deed[1] = "other"
        deeds.clear()
        self.assertEqual((board.row, board.names), (("b", "a"), ("view",)))
        self.assertEqual([type(own) for own in (board.row, board.names, board.frames, board.common(), board.unseen(),
                                                board.doubled(), board.above("view"), board.shown("view"))], [tuple] * 8)
        pair = ["view", Step("cap", 2)]
        board += pair
        pair[0] = "other"
        self.assertEqual(board["view"].text, "cap 1; cap 2")
        self.assertEqual(Board(row=["q"]).row, ("q",))

    def test_arguments_by_names(self):
        board = Board(row=("a", "b"))
        board.use(name="c")
        board.forget(name="a")
        board.do(rule=Rule.of("touch d"))
        board.cut(number=2)
        board["view"] = Rule.of("cap 2")
        board.frame(name="view", low=None, high=Rule())
        self.assertEqual((board.shown(name="view"), board.above(name="view")), (("d", "c"), ()))
        self.assertEqual(board.effect(name="view", rule=Rule()), "within")
        board.lift(name="view")
        board.leave(name="view")
        board.attempt(deeds=(("use", "e"),))
        self.assertEqual(board.row, ("e", "d"))

    def test_eight_views_and_three_hundred_names(self):
        names = [chr(97 + at // 26) + chr(97 + at % 26) for at in range(300)]
        board = Board(tuple(names))
        for place in range(8):
            steps = [Step("touch" if at % 3 else "forget", names[at * (place + 1) % 300]) for at in range(40)]
            board[f"view{'abcdefgh'[place]}"] = Rule([*steps, *[Step("cap", GREAT - at) for at in range(20)]])
        for name in board.names:
            at_once(board.frame, name, Rule.of("touch a; cap 1; forget a"), board[name])
            at_once(board.above, name)
            self.assertEqual(len(at_once(board.shown, name)), len(set(board.shown(name))))
            self.assertEqual(at_once(board.effect, name, board[name]), "alike")
        for call in (board.common, board.unseen, board.doubled, board.twin):
            at_once(call)
        self.assertEqual(len(at_once(lambda: board.frames)), 8)
        self.assertIs(at_once(lambda: board == board.twin()), True)
        deeds = [("use", name) for name in names[:250]] + [("forget", name) for name in names[:249]] + [("forget", "zzz")]
        with self.assertRaises(Stopped) as caught:
            at_once(board.attempt, deeds)
        self.assertEqual(vars(caught.exception), {"number": 499, "raised": "NoName", "value": "zzz"})
        self.assertEqual(board.row, tuple(names))


class Hand(unittest.TestCase):

    def test_the_board_told_by_hand_is_what_it_is_taken_for(self):
        hand = HandBoard(within, ("a", "b"))
        self.assertEqual(hand.deeds([("use", "c"), ("forget", "x")]), (1, "NoName", "x"))
        self.assertEqual((hand.row, hand.undo()), (("a", "b"), False))
        self.assertIsNone(hand.deeds([("set", "menu", "cap 2"), ("cut", 1)]))
        self.assertEqual((hand.shown("menu"), hand.common(), hand.unseen()), (("a",), ("a",), ()))
        self.assertEqual(hand.deeds([("frame", "menu", "cap 3", None)]), (0, "Outside", "menu"))
        self.assertEqual((hand.frames, hand.undo(), hand.row), ({}, True, ("a", "b")))
        with self.assertRaises(Refused):
            hand.one("lift", "menu")
        self.assertEqual(NAMES, ("a", "b", "c"))
