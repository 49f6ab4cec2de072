"""Point 2 for what points 6 to 16 list: lists for tuples, arguments by names, answers that belong to the caller."""

import inspect
import unittest
from copy import deepcopy

from tests.test_interface import ARGUMENTS, arguments
from touchcaps import behind, costs, desk, devices, forms, known, numbers, order, tells, texts
from touchcaps.board import Board
from touchcaps.errors import (
    Apart, BadLine, BadText, Endless, NoNumber, NotAhead, NotBetween, NotJoined, NotUsed, OtherNames, Unfit,
)
from touchcaps.rules import Rule

ONE, OTHER = Rule.of("touch a; cap 3"), Rule.of("cap 3; touch a")
BOTH = Rule.of("cap 5; touch b; forget c; cap 4; touch a")
FORM = (("b", "a"), ("c",), (((), 4), (("a", "b", "c"), 2)))
LOGS = ((("x", "y"), ("x",)), (("a", "x"), ("x",)))
TOLD = tuple(BOTH(row) for row in tells.telling_rows(("a", "b", "c"), 5))
PRICES = {"touch": 2, "forget": 1, "cap": 5}
TWO = (("a", "b"), ("b", "c"))
MENU = "d a b\nlimit 4\nmenu: cap 3; cap 4\nmenu from cap 1 .. *\nend"
CALLS = [
    (forms.constant, (ONE,)), (forms.constant, (Rule.of("touch a; touch b; cap 2"),)), (forms.front, (BOTH,)),
    (forms.gone, (BOTH,)), (forms.bounds, (BOTH,)), (forms.follows, ((("a",), 3), ((), 3))),
    (forms.follows, (((), 3), (("a", "b"), 2))), (forms.tight, (((("a", "b"), 2), ((), 3), (("a",), 3)),)),
    (forms.tight, ((),)), (forms.form_of, (BOTH,)), (forms.by_form, (FORM, ("x", "c", "a", "y", "z", "v", "w"))),
    (forms.by_form, ((("q",), (), (((), 0),)), ("x",))), (forms.rule_of, (FORM,)), (forms.plain, (BOTH,)),
    (forms.rule_of, ((("b", "a"), (), (((), 0),)),)), (forms.rule_of, (((), (), (((), 0),)),)),
    (order.compare, (ONE, OTHER)), (order.reach, (BOTH, ("a", "b"))), (order.outside_row, (OTHER, ONE)),
    (order.parting_row, (ONE, OTHER)), (order.height, (BOTH,)), (order.above, (BOTH,)), (order.below, (BOTH,)),
    (order.climb, (ONE, OTHER)), (order.least_around, ((ONE, OTHER),)), (order.greatest_within, ((ONE, OTHER, OTHER),)),
    (order.least_around, ((Rule(), Rule()),)), (order.greatest_within, ((Rule.of("touch a; cap 1"), ONE),)),
    (behind.steady, (ONE,)), (behind.settles, (OTHER,)), (behind.idle_behind, (ONE, OTHER)),
    (behind.idle_ahead, (ONE, OTHER)), (behind.either_order, (ONE, OTHER)), (behind.rest_of, (ONE, ONE >> BOTH)),
    (behind.front_of, (ONE, BOTH >> ONE)), (behind.meeting, (OTHER, ONE)), (numbers.how_many_bounds, (7,)),
    (numbers.how_many, (7,)), (numbers.how_many_to, (3, 4)), (numbers.nth, (("a", "b", "c"), 3, 77)),
    (numbers.number_of, (BOTH,)), (numbers.many_between, (ONE, OTHER)), (numbers.nth_between, (ONE, OTHER, 1)),
    (numbers.rank_between, (ONE, OTHER, ONE)),
    (known.strange_place, (BOTH, ("a", "x", "c"))), (known.can_come, (BOTH, ("a", "x"))),
    (known.least_ahead, (BOTH, ("a", "x"))), (known.is_ahead, (OTHER, ("a", "x"), ("x", "a"))),
    (known.lost, (OTHER, ("a", "x", "y"))), (known.lost, (OTHER, ("a", "x", "y"), 4)), (known.lengths, (OTHER, ("a", "x"))),
    (known.was_there, (OTHER, ("a", "x", "y"), "a")), (known.was_there, (OTHER, ("a", "x", "y"), "a", 3)),
    (known.sight, (BOTH,)), (known.places, (OTHER, ("a", "x", "y"), "y")), (known.sight_rows, (BOTH,)),
    (known.how_many_ahead, (OTHER, ("a", "x"))), (known.nth_ahead, (OTHER, ("a", "x"), 2)),
    (known.rank_ahead, (OTHER, ("a", "x"), ("x", "a"))),
    (costs.needless, (ONE >> ONE,)), (costs.touched_once, (BOTH,)), (costs.further, (ONE, ONE >> BOTH)),
    (costs.fewest, (BOTH >> ONE,)), (costs.price_of, (BOTH, PRICES)), (costs.cheapest, (BOTH >> ONE, PRICES)),
    (tells.fits, (BOTH, ((("x", "c"), ("a", "b", "x")),))), (tells.all_fitting, (("a",), 1, LOGS)),
    (tells.sure, (("a",), 1, LOGS, ("a", "z", "y"))), (tells.question, (("a", "b"), 1, LOGS)),
    (tells.telling_rows, (("a", "b"), 2)), (tells.read_off, (("a", "b", "c"), 5, TOLD)),
    (tells.in_order, (BOTH, ("b", "c", "a"))), (devices.used, (("c", "b", "c", "a"),)), (devices.all_used, (TWO,)),
    (devices.is_order, (TWO, (0, 1, 1, 0))), (devices.joined_by, (TWO, ("x", "a"), (1, 0, 0, 1))),
    (devices.joined_by, (TWO, ("x", "a"), (1, 0, 0, 1), 2)), (devices.how_many_joined, (TWO, ("x",))),
    (devices.how_many_joined, (TWO, ("x",), 1)), (devices.is_joined, (TWO, (), ("b", "c", "a"))),
    (devices.is_joined, (TWO, (), ("b", "c"), 2)), (devices.nth_joined, (TWO, ("x",), 1)),
    (devices.nth_joined, (TWO, ("x",), 1, 2)), (devices.rank_joined, (TWO, ("x",), ("b", "a", "c", "x"))),
    (devices.rank_joined, (TWO, ("x",), ("b", "a"), 2)), (devices.order_to, (TWO, ("x",), ("b", "a", "c", "x"))),
    (devices.order_to, (TWO, ("x",), ("b", "a"), 2)), (devices.surely_ahead, (TWO, "b", "c")), (devices.sure_pairs, (TWO,)),
    (devices.place_range, (TWO, "c")), (devices.stands, (TWO, ("x", "y"), "y")), (devices.stands, (TWO, ("x", "y"), "a", 1)),
    (devices.cap_for, (TWO, ("x", "y"), "y")), (texts.program_of, ("(cap 3; touch a) x 2",)),
    (texts.board_text, (texts.board_in(MENU),)), (texts.board_in, (MENU,)), (desk.answers, ("use a\nrow\nforget b\nundo",)),
]
REFUSED = [
    (forms.tight, (((("a",), 2), (("b",), 1)),), Apart), (order.least_around, ((ONE, BOTH),), OtherNames),
    (order.greatest_within, ((ONE, BOTH),), OtherNames), (numbers.nth, (("a", "b"), 1, 25), NoNumber),
    (numbers.many_between, (ONE, BOTH), OtherNames), (numbers.nth_between, (ONE, OTHER, 2), NoNumber),
    (numbers.rank_between, (ONE, OTHER, Rule.of("cap 9; touch a")), NotBetween),
    (known.nth_ahead, (OTHER, ("a", "x", "y"), 0), Endless), (known.nth_ahead, (OTHER, ("a", "x"), 3), NoNumber),
    (known.rank_ahead, (OTHER, ("a", "x"), ("y",)), NotAhead), (known.rank_ahead, (ONE, ("a", "x", "y"), ()), Endless),
    (tells.sure, (("a",), 1, ((("x",), ("y",)),), ()), Unfit), (tells.question, (("a",), 1, ((("x",), ("y",)),)), Unfit),
    (tells.read_off, (("a",), 1, ((), ("x",))), Unfit), (devices.nth_joined, (TWO, (), 3), NoNumber),
    (devices.nth_joined, (TWO, (), 2, 1), NoNumber), (devices.rank_joined, (TWO, ("x",), ("c", "a", "b", "x")), NotJoined),
    (devices.rank_joined, (TWO, ("x",), ("c",), 1), NotJoined), (devices.surely_ahead, (TWO, "b", "x"), NotUsed),
    (devices.place_range, (TWO, "x"), NotUsed), (texts.program_of, ("(cap 3)",), BadText),
    (texts.board_in, ("-\nlimit 0\nend",), BadLine), (desk.answers, ("row\n",), BadLine),
]
LATER = (forms, order, behind, numbers, known, costs, tells, devices, texts, desk)


def with_lists(value):
    return [with_lists(part) for part in value] if isinstance(value, tuple) else value


def listed(function, values):
    """The values with lists for tuples, but for an argument that is called thing."""
    names = arguments(function)
    return tuple(value if name == "thing" else with_lists(value) for name, value in zip(names, values))


def call(function, values):
    """The call with all values by position but those that are passed by name alone."""
    names = arguments(function)
    plain = [value for name, value in zip(names, values) if name[0] != "*"]
    return function(*plain, **{name[1:]: value for name, value in zip(names, values) if name[0] == "*"})


def call_by_names(function, values):
    return function(**{name.strip("*"): value for name, value in zip(arguments(function), values)})


def shown(value):
    """The value with texts for Rules; lists and tuples stay what they are."""
    if isinstance(value, Rule):
        return ("Rule", value.text)
    if isinstance(value, dict):
        return ("dict", tuple(value.items()))
    if isinstance(value, Board):
        return ("Board", texts.board_text(value), len(value.twin().frames), value.twin().undo())
    if isinstance(value, (list, tuple)):
        return type(value)(shown(part) for part in value)
    return (type(value).__name__, value)


class Calls(unittest.TestCase):

    def test_lists_for_tuples_and_names_for_places(self):
        for function, values in CALLS:
            with self.subTest(function.__name__):
                expected = shown(call(function, values))
                self.assertEqual(shown(call(function, values)), expected)
                self.assertEqual(shown(call(function, listed(function, values))), expected)
                self.assertEqual(shown(call_by_names(function, values)), expected)
                self.assertEqual(shown(call_by_names(function, listed(function, values))), expected)

    def test_all_functions_are_called(self):
        names = {name for module in LATER for name in ARGUMENTS[module]}
        self.assertEqual(names - {function.__name__ for function, _ in CALLS}, {"is_form", "Hunt"})
        self.assertIs(forms.is_form(thing=FORM), True)
        self.assertIs(forms.is_form(with_lists(FORM)), False)

    def test_nothing_that_is_handed_in_changes(self):
        for function, values in CALLS:
            given = listed(function, values)
            texts = shown(deepcopy(given))
            call(function, given)
            self.assertEqual(shown(given), texts, function.__name__)

    def test_lists_belong_to_the_caller(self):
        for function, values in CALLS:
            found = call(function, values)
            if isinstance(found, list):
                expected = shown(found)
                found.clear()
                self.assertEqual(shown(call(function, values)), expected)
                self.assertIsNot(call(function, values), call(function, values))

    def test_lists_and_tuples(self):
        lists = {function.__name__ for function, values in CALLS if isinstance(call(function, values), list)}
        self.assertEqual(lists, {"above", "below", "climb", "least_around", "greatest_within", "all_fitting", "answers"})
        self.assertEqual(order.above(Rule()), [])
        self.assertEqual(tells.all_fitting(("a",), 1, ((("x",), ("y",)),)), [])
        for function, values in CALLS:
            for given in (values, listed(function, values)):
                self.assertNotIn("[", repr(shown(call(function, given))).removeprefix("["), function.__name__)

    def test_errors_too(self):
        for function, values, refused in REFUSED:
            kept = []
            for given in (values, values, listed(function, values)):
                for way in (call, call_by_names):
                    with self.assertRaises(refused) as caught:
                        way(function, given)
                    kept.append(vars(caught.exception))
            self.assertEqual(kept, [kept[0]] * 6)
            self.assertNotIn("[", repr(kept)[1:])

    def test_what_is_returned_may_be_handed_in_again(self):
        rule = forms.rule_of(forms.form_of(BOTH))
        self.assertEqual(forms.form_of(rule), forms.form_of(BOTH))
        self.assertEqual(forms.tight(forms.bounds(BOTH)), forms.bounds(BOTH))
        self.assertEqual([order.height(own) for own in order.climb(ONE, OTHER)], [3, 4])
        self.assertEqual(shown(order.least_around(order.above(ONE))), shown(order.above(ONE)))
        x, y = behind.meeting(ONE, OTHER)
        self.assertIs(behind.rest_of(ONE, ONE >> x) is None, False)
        self.assertIs(OTHER >> y == ONE >> x, True)
        self.assertEqual(known.rank_ahead(OTHER, ("a", "x"), known.nth_ahead(OTHER, ("a", "x"), 1)), 1)
        self.assertEqual([rule.text for rule in tells.all_fitting(("a",), 1, [*LOGS])], ["forget a; cap 1"])
        row = devices.nth_joined(TWO, devices.nth_joined(TWO, (), 0), 2)
        self.assertEqual(devices.joined_by(TWO, (), devices.order_to(TWO, (), row)), row)
