"""The examples of points 4 to 12."""

import unittest

from tests.examples import BEHIND, COSTS, DEVICES, FORMS, KNOWN, NUMBERS, ORDER, ROWS, RULES, parts_of, unlike
from touchcaps import behind, costs, devices, forms, known, numbers, order, tells
from touchcaps.rows import capped, forgotten, is_name, is_row, outside, row_of, row_text, touched
from touchcaps.rules import Rule
from touchcaps.steps import Step

ROW_NAMES = (capped, forgotten, is_name, is_row, outside, row_of, row_text, touched)
LATER = (forms, order, behind, numbers, known, costs, tells, devices)


def later_names():
    """What the examples of points 6 to 12 need; they share what earlier ones have made."""
    own = {name: value for module in LATER for name, value in vars(module).items() if not name.startswith("_")}
    return {**own, "Rule": Rule, "Step": Step}


class Examples(unittest.TestCase):

    def test_rows(self):
        self.assertEqual(unlike(ROWS, {function.__name__: function for function in ROW_NAMES}), [])

    def test_rules(self):
        self.assertEqual(unlike(RULES, {"Rule": Rule, "Step": Step}), [])

    def test_all_others(self):
        names = later_names()
        for text in (FORMS, ORDER, BEHIND, NUMBERS, KNOWN, COSTS, DEVICES):
            self.assertEqual(unlike(text, names), [])

    def test_all_are_tried(self):
        texts = (ROWS, RULES, FORMS, ORDER, BEHIND, NUMBERS, KNOWN, COSTS, DEVICES)
        self.assertEqual([len(parts_of(text)) for text in texts], [6, 9, 10, 10, 9, 7, 9, 19, 7])

    def test_a_wrong_one_is_found(self):
        wrong = ROWS.replace("('c', 'd'))", "('d', 'c'))")
        self.assertEqual(len(unlike(wrong, {function.__name__: function for function in ROW_NAMES})), 1)
        wrong = ORDER.replace("(3, 4, 0, None,", "(3, 4, 1, None,")
        self.assertEqual(len(unlike(wrong, later_names())), 1)
