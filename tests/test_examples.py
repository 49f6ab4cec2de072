"""The examples of points 4 to 16."""

import unittest

from tests.examples import (
    BEHIND, BOARD, COSTS, DESK, DEVICES, FORMS, KNOWN, LONGS, NUMBERS, ORDER, ROWS, RULES, TEXTS, parts_of, unlike,
)
from touchcaps import behind, board, costs, desk, devices, forms, known, longs, numbers, order, tells, texts
from touchcaps.rows import capped, forgotten, is_name, is_row, outside, row_of, row_text, touched
from touchcaps.rules import Rule
from touchcaps.steps import Step

ROW_NAMES = (capped, forgotten, is_name, is_row, outside, row_of, row_text, touched)
LATER = (forms, order, behind, numbers, known, costs, tells, devices, longs, board, texts, desk)


def later_names():
    """What the examples of points 6 to 16 need; they share what earlier ones have made."""
    own = {name: value for module in LATER for name, value in vars(module).items() if not name.startswith("_")}
    return {**own, "Rule": Rule, "Step": Step}


class Examples(unittest.TestCase):

    def test_rows(self):
        self.assertEqual(unlike(ROWS, {function.__name__: function for function in ROW_NAMES}), [])

    def test_rules(self):
        self.assertEqual(unlike(RULES, {"Rule": Rule, "Step": Step}), [])

    def test_all_others(self):
        names = later_names()
        for text in (FORMS, ORDER, BEHIND, NUMBERS, KNOWN, COSTS, DEVICES, LONGS, BOARD, TEXTS, DESK):
            self.assertEqual(unlike(text, names), [])

    def test_all_are_tried(self):
        every = (ROWS, RULES, FORMS, ORDER, BEHIND, NUMBERS, KNOWN, COSTS, DEVICES, LONGS, BOARD, TEXTS, DESK)
        self.assertEqual([len(parts_of(text)) for text in every], [6, 9, 10, 10, 9, 7, 9, 19, 7, 9, 11, 5, 3])

    def test_a_wrong_one_is_found(self):
        wrong = ROWS.replace("('c', 'd'))", "('d', 'c'))")
        self.assertEqual(len(unlike(wrong, {function.__name__: function for function in ROW_NAMES})), 1)
        wrong = ORDER.replace("(3, 4, 0, None,", "(3, 4, 1, None,")
        self.assertEqual(len(unlike(wrong, later_names())), 1)
