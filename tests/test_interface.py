"""Point 17: what is listed is defined in its file and its class, under its name and with its arguments."""

import inspect
import unittest

from touchcaps import (
    behind, board, costs, desk, devices, forms, known, longs, numbers, order, rows, rules, steps, tells, texts,
)

ARGUMENTS = {
    rows: {
        "is_name": ["thing"], "is_row": ["thing"], "row_text": ["row"], "row_of": ["text"],
        "outside": ["row", "names"], "forgotten": ["row", "name"], "touched": ["row", "name"],
        "capped": ["row", "number"],
    },
    steps: {"Step": ["kind", "what"]},
    rules: {"Rule": ["steps"]},
    forms: {
        "constant": ["rule"], "front": ["rule"], "gone": ["rule"], "bounds": ["rule"], "follows": ["bound", "other"],
        "tight": ["bounds"], "form_of": ["rule"], "is_form": ["thing"], "by_form": ["form", "row"], "rule_of": ["form"],
        "plain": ["rule"],
    },
    order: {
        "compare": ["p", "q"], "reach": ["p", "names"], "outside_row": ["p", "q"], "parting_row": ["p", "q"],
        "height": ["p"], "above": ["p"], "below": ["p"], "climb": ["p", "q"], "least_around": ["rules"],
        "greatest_within": ["rules"],
    },
    behind: {
        "steady": ["p"], "settles": ["p"], "idle_behind": ["p", "other"], "idle_ahead": ["p", "other"],
        "either_order": ["p", "other"], "rest_of": ["p", "whole"], "front_of": ["p", "whole"],
        "meeting": ["p", "other"],
    },
    numbers: {
        "how_many_bounds": ["number"], "how_many": ["number"], "how_many_to": ["number", "most"],
        "nth": ["names", "last", "number"], "number_of": ["rule"], "many_between": ["p", "q"],
        "nth_between": ["p", "q", "number"], "rank_between": ["p", "q", "third"],
    },
    known: {
        "strange_place": ["rule", "row"], "can_come": ["rule", "row"], "least_ahead": ["rule", "row"],
        "is_ahead": ["rule", "row", "thing"], "lost": ["rule", "row", "*length"], "lengths": ["rule", "row"],
        "was_there": ["rule", "row", "name", "*length"], "sight": ["rule"], "places": ["rule", "row", "name"],
        "sight_rows": ["rule"], "how_many_ahead": ["rule", "row"], "nth_ahead": ["rule", "row", "number"],
        "rank_ahead": ["rule", "row", "ahead"],
    },
    costs: {
        "needless": ["rule"], "touched_once": ["rule"], "further": ["rule", "other"], "fewest": ["rule"],
        "price_of": ["rule", "prices"], "cheapest": ["rule", "prices"],
    },
    tells: {
        "fits": ["rule", "logs"], "all_fitting": ["names", "most", "logs"], "sure": ["names", "most", "logs", "row"],
        "question": ["names", "most", "logs"], "telling_rows": ["names", "most"],
        "read_off": ["names", "most", "told"], "in_order": ["rule", "order"], "Hunt": ["order", "most"],
    },
    devices: {
        "used": ["names"], "all_used": ["devices"], "is_order": ["devices", "thing"],
        "joined_by": ["devices", "row", "order", "*cap"], "how_many_joined": ["devices", "row", "*cap"],
        "is_joined": ["devices", "row", "thing", "*cap"], "nth_joined": ["devices", "row", "number", "*cap"],
        "rank_joined": ["devices", "row", "joined", "*cap"], "order_to": ["devices", "row", "joined", "*cap"],
        "surely_ahead": ["devices", "one", "other"], "sure_pairs": ["devices"], "place_range": ["devices", "name"],
        "stands": ["devices", "row", "name", "*cap"], "cap_for": ["devices", "row", "name"],
    },
    longs: {"Long": ["size", "places"]},
    board: {"Board": ["row"]},
    texts: {"program_of": ["text"], "board_text": ["board"], "board_in": ["text"]},
    desk: {"answers": ["text"]},
}
OWN = {
    steps.Step: ["__init__", "of", "kind", "what", "text", "__call__", "__eq__"],
    rules.Rule: [
        "__init__", "of", "steps", "text", "__len__", "__getitem__", "__iter__", "__call__", "__rshift__", "__mul__",
        "__eq__", "within",
    ],
    tells.Hunt: ["__init__", "ask", "rule", "answers", "__len__", "tell"],
    longs.Long: [
        "__init__", "of", "size", "places", "text", "__contains__", "__getitem__", "__iter__", "__eq__", "after", "lost",
        "goes", "comes",
    ],
    board.Board: [
        "__init__", "row", "limit", "names", "__len__", "__contains__", "__getitem__", "__iter__", "frames", "shown",
        "common", "unseen", "above", "doubled", "effect", "__eq__", "use", "forget", "do", "cut", "__setitem__", "leave",
        "__iadd__", "frame", "lift", "attempt", "undo", "twin",
    ],
}
METHODS = {
    steps.Step: {"of": ["text"], "__call__": ["self", "row"]},
    rules.Rule: {"of": ["text"], "__call__": ["self", "row"], "within": ["self", "other"]},
    tells.Hunt: {"tell": ["self", "out"]},
    longs.Long: {
        "of": ["text"], "after": ["self", "rule"], "lost": ["self", "rule"], "goes": ["self", "rule", "place"],
        "comes": ["self", "rule", "place"],
    },
    board.Board: {
        "shown": ["self", "name"], "common": ["self"], "unseen": ["self"], "above": ["self", "name"], "doubled": ["self"],
        "effect": ["self", "name", "rule"], "use": ["self", "name"], "forget": ["self", "name"], "do": ["self", "rule"],
        "cut": ["self", "number"], "leave": ["self", "name"], "frame": ["self", "name", "low", "high"],
        "lift": ["self", "name"], "attempt": ["self", "deeds"], "undo": ["self"], "twin": ["self"],
    },
}
PROPERTIES = {
    steps.Step: ["kind", "what", "text"], rules.Rule: ["steps", "text"], tells.Hunt: ["ask", "rule", "answers"],
    longs.Long: ["size", "places", "text"], board.Board: ["row", "limit", "names", "frames"],
}


def arguments(own):
    """The names of the arguments, with a star ahead of those that are passed by name alone."""
    parameters = inspect.signature(own).parameters.values()
    return ["*" * (one.kind is one.KEYWORD_ONLY) + one.name for one in parameters]


class Interface(unittest.TestCase):

    def test_each_is_defined_in_its_file_with_its_arguments(self):
        for module, listed in ARGUMENTS.items():
            for name, expected in listed.items():
                with self.subTest(name):
                    own = vars(module)[name]
                    self.assertEqual(own.__module__, module.__name__)
                    self.assertEqual(arguments(own), expected)

    def test_each_method_is_defined_in_its_class(self):
        for own, names in OWN.items():
            self.assertEqual(own.__bases__, (object,))
            self.assertEqual([name for name in names if name not in vars(own)], [])

    def test_methods_have_their_arguments(self):
        for own, methods in METHODS.items():
            for name, expected in methods.items():
                method = getattr(own, name)
                self.assertEqual(arguments(method), expected)
                defaults = [one.default for one in inspect.signature(method).parameters.values()]
                self.assertEqual(defaults, [inspect.Parameter.empty] * len(expected))

    def test_properties_have_no_setters(self):
        for own, names in PROPERTIES.items():
            for name in names:
                self.assertIsInstance(vars(own)[name], property)
                self.assertIsNone(vars(own)[name].fset)

    def test_defaults(self):
        self.assertEqual((longs.Long().text, board.Board().row, rules.Rule().text), ("0", (), "-"))
        for own in (steps.Step, tells.Hunt):
            with self.assertRaises(TypeError):
                own()

    def test_length_and_cap_are_passed_by_name_alone_and_need_not_be(self):
        for module in (known, devices):
            for name in ARGUMENTS[module]:
                for one in inspect.signature(vars(module)[name]).parameters.values():
                    self.assertIs(one.default, None if one.name in ("length", "cap") else one.empty, name)

    def test_the_static_methods_are_static(self):
        self.assertIsInstance(vars(steps.Step)["of"], staticmethod)
        self.assertIsInstance(vars(rules.Rule)["of"], staticmethod)
        self.assertIsInstance(vars(longs.Long)["of"], staticmethod)
