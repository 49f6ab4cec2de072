"""Point 17: what is listed is defined in its file and its class, under its name and with its arguments."""

import inspect
import unittest

from touchcaps import behind, forms, numbers, order, rows, rules, steps

ARGUMENTS = {
    rows: {
        "is_name": ["thing"], "is_row": ["thing"], "row_text": ["row"], "row_of": ["text"],
        "outside": ["row", "names"], "forgotten": ["row", "name"], "touched": ["row", "name"],
        "capped": ["row", "number"],
    },
    steps: {"Step": ["kind", "what"]},
    rules: {"Rule": ["steps"]},
    forms: {
        "constant": ["rule"], "front": ["rule"], "gone": ["rule"], "bounds": ["rule"], "follows": ["bound", "other"],
        "tight": ["bounds"], "form_of": ["rule"], "is_form": ["thing"], "by_form": ["form", "row"], "rule_of": ["form"],
        "plain": ["rule"],
    },
    order: {
        "compare": ["p", "q"], "reach": ["p", "names"], "outside_row": ["p", "q"], "parting_row": ["p", "q"],
        "height": ["p"], "above": ["p"], "below": ["p"], "climb": ["p", "q"], "least_around": ["rules"],
        "greatest_within": ["rules"],
    },
    behind: {
        "steady": ["p"], "settles": ["p"], "idle_behind": ["p", "other"], "idle_ahead": ["p", "other"],
        "either_order": ["p", "other"], "rest_of": ["p", "whole"], "front_of": ["p", "whole"],
        "meeting": ["p", "other"],
    },
    numbers: {
        "how_many_bounds": ["number"], "how_many": ["number"], "how_many_to": ["number", "most"],
        "nth": ["names", "last", "number"], "number_of": ["rule"], "many_between": ["p", "q"],
        "nth_between": ["p", "q", "number"], "rank_between": ["p", "q", "third"],
    },
}
OWN = {
    steps.Step: ["__init__", "of", "kind", "what", "text", "__call__", "__eq__"],
    rules.Rule: [
        "__init__", "of", "steps", "text", "__len__", "__getitem__", "__iter__", "__call__", "__rshift__", "__mul__",
        "__eq__", "within",
    ],
}


class Interface(unittest.TestCase):

    def test_each_is_defined_in_its_file_with_its_arguments(self):
        for module, listed in ARGUMENTS.items():
            for name, arguments in listed.items():
                with self.subTest(name):
                    own = vars(module)[name]
                    self.assertEqual(own.__module__, module.__name__)
                    self.assertEqual(list(inspect.signature(own).parameters), arguments)

    def test_each_method_is_defined_in_its_class(self):
        for own, names in OWN.items():
            self.assertEqual(own.__bases__, (object,))
            self.assertEqual([name for name in names if name not in vars(own)], [])

    def test_methods_have_their_arguments(self):
        self.assertEqual(list(inspect.signature(steps.Step.of).parameters), ["text"])
        self.assertEqual(list(inspect.signature(rules.Rule.of).parameters), ["text"])
        self.assertEqual(list(inspect.signature(steps.Step.__call__).parameters), ["self", "row"])
        self.assertEqual(list(inspect.signature(rules.Rule.__call__).parameters), ["self", "row"])
        self.assertEqual(list(inspect.signature(rules.Rule.within).parameters), ["self", "other"])

    def test_the_static_methods_are_static(self):
        self.assertIsInstance(vars(steps.Step)["of"], staticmethod)
        self.assertIsInstance(vars(rules.Rule)["of"], staticmethod)
