"""Point 2 for what points 6 to 9 list: lists for tuples, arguments by names, answers that belong to the caller."""

import inspect
import unittest
from copy import deepcopy

from tests.test_interface import ARGUMENTS
from touchcaps import behind, forms, numbers, order
from touchcaps.errors import Apart, NoNumber, NotBetween, OtherNames
from touchcaps.rules import Rule

ONE, OTHER = Rule.of("touch a; cap 3"), Rule.of("cap 3; touch a")
BOTH = Rule.of("cap 5; touch b; forget c; cap 4; touch a")
FORM = (("b", "a"), ("c",), (((), 4), (("a", "b", "c"), 2)))
CALLS = [
    (forms.constant, (ONE,)), (forms.constant, (Rule.of("touch a; touch b; cap 2"),)), (forms.front, (BOTH,)),
    (forms.gone, (BOTH,)), (forms.bounds, (BOTH,)), (forms.follows, ((("a",), 3), ((), 3))),
    (forms.follows, (((), 3), (("a", "b"), 2))), (forms.tight, (((("a", "b"), 2), ((), 3), (("a",), 3)),)),
    (forms.tight, ((),)), (forms.form_of, (BOTH,)), (forms.by_form, (FORM, ("x", "c", "a", "y", "z", "v", "w"))),
    (forms.by_form, ((("q",), (), (((), 0),)), ("x",))), (forms.rule_of, (FORM,)), (forms.plain, (BOTH,)),
    (forms.rule_of, ((("b", "a"), (), (((), 0),)),)), (forms.rule_of, (((), (), (((), 0),)),)),
    (order.compare, (ONE, OTHER)), (order.reach, (BOTH, ("a", "b"))), (order.outside_row, (OTHER, ONE)),
    (order.parting_row, (ONE, OTHER)), (order.height, (BOTH,)), (order.above, (BOTH,)), (order.below, (BOTH,)),
    (order.climb, (ONE, OTHER)), (order.least_around, ((ONE, OTHER),)), (order.greatest_within, ((ONE, OTHER, OTHER),)),
    (order.least_around, ((Rule(), Rule()),)), (order.greatest_within, ((Rule.of("touch a; cap 1"), ONE),)),
    (behind.steady, (ONE,)), (behind.settles, (OTHER,)), (behind.idle_behind, (ONE, OTHER)),
    (behind.idle_ahead, (ONE, OTHER)), (behind.either_order, (ONE, OTHER)), (behind.rest_of, (ONE, ONE >> BOTH)),
    (behind.front_of, (ONE, BOTH >> ONE)), (behind.meeting, (OTHER, ONE)), (numbers.how_many_bounds, (7,)),
    (numbers.how_many, (7,)), (numbers.how_many_to, (3, 4)), (numbers.nth, (("a", "b", "c"), 3, 77)),
    (numbers.number_of, (BOTH,)), (numbers.many_between, (ONE, OTHER)), (numbers.nth_between, (ONE, OTHER, 1)),
    (numbers.rank_between, (ONE, OTHER, ONE)),
]
REFUSED = [
    (forms.tight, (((("a",), 2), (("b",), 1)),), Apart), (order.least_around, ((ONE, BOTH),), OtherNames),
    (order.greatest_within, ((ONE, BOTH),), OtherNames), (numbers.nth, (("a", "b"), 1, 25), NoNumber),
    (numbers.many_between, (ONE, BOTH), OtherNames), (numbers.nth_between, (ONE, OTHER, 2), NoNumber),
    (numbers.rank_between, (ONE, OTHER, Rule.of("cap 9; touch a")), NotBetween),
]


def with_lists(value):
    return [with_lists(part) for part in value] if isinstance(value, tuple) else value


def shown(value):
    """The value with texts for Rules; lists and tuples stay what they are."""
    if isinstance(value, Rule):
        return ("Rule", value.text)
    if isinstance(value, (list, tuple)):
        return type(value)(shown(part) for part in value)
    return (type(value).__name__, value)


class Calls(unittest.TestCase):

    def test_lists_for_tuples_and_names_for_places(self):
        for function, values in CALLS:
            with self.subTest(function.__name__):
                expected = shown(function(*values))
                self.assertEqual(shown(function(*values)), expected)
                self.assertEqual(shown(function(*with_lists(values))), expected)
                names = list(inspect.signature(function).parameters)
                self.assertEqual(shown(function(**dict(zip(names, values)))), expected)
                self.assertEqual(shown(function(**dict(zip(names, with_lists(values))))), expected)

    def test_all_functions_are_called(self):
        listed = {name for module in (forms, order, behind, numbers) for name in ARGUMENTS[module]}
        self.assertEqual(listed - {function.__name__ for function, _ in CALLS}, {"is_form"})
        self.assertIs(forms.is_form(thing=FORM), True)
        self.assertIs(forms.is_form(with_lists(FORM)), False)

    def test_nothing_that_is_handed_in_changes(self):
        for function, values in CALLS:
            given = with_lists(values)
            texts = shown(deepcopy(given))
            function(*given)
            self.assertEqual(shown(given), texts, function.__name__)

    def test_lists_belong_to_the_caller(self):
        for function, values in CALLS:
            found = function(*values)
            if isinstance(found, list):
                expected = shown(found)
                found.clear()
                self.assertEqual(shown(function(*values)), expected)
                self.assertIsNot(function(*values), function(*values))

    def test_lists_and_tuples(self):
        lists = {function.__name__ for function, values in CALLS if isinstance(function(*values), list)}
        self.assertEqual(lists, {"above", "below", "climb", "least_around", "greatest_within"})
        self.assertEqual(order.above(Rule()), [])
        for function, values in CALLS:
            self.assertNotIn("[", repr(shown(function(*values))).removeprefix("["), function.__name__)

    def test_errors_too(self):
        for function, values, refused in REFUSED:
            kept = []
            for given in (values, values, with_lists(values)):
                with self.assertRaises(refused) as caught:
                    function(*given)
                kept.append(vars(caught.exception))
            with self.assertRaises(refused) as caught:
                function(**dict(zip(inspect.signature(function).parameters, values)))
            self.assertEqual(kept, [vars(caught.exception)] * 3)
            self.assertNotIn("[", repr(kept)[1:])

    def test_what_is_returned_may_be_handed_in_again(self):
        rule = forms.rule_of(forms.form_of(BOTH))
        self.assertEqual(forms.form_of(rule), forms.form_of(BOTH))
        self.assertEqual(forms.tight(forms.bounds(BOTH)), forms.bounds(BOTH))
        self.assertEqual([order.height(own) for own in order.climb(ONE, OTHER)], [3, 4])
        self.assertEqual(shown(order.least_around(order.above(ONE))), shown(order.above(ONE)))
        x, y = behind.meeting(ONE, OTHER)
        self.assertIs(behind.rest_of(ONE, ONE >> x) is None, False)
        self.assertIs(OTHER >> y == ONE >> x, True)
