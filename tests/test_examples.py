"""The examples of points 4 and 5."""

import unittest

from tests.examples import ROWS, RULES, parts_of, unlike
from touchcaps.rows import capped, forgotten, is_name, is_row, outside, row_of, row_text, touched
from touchcaps.rules import Rule
from touchcaps.steps import Step

ROW_NAMES = (capped, forgotten, is_name, is_row, outside, row_of, row_text, touched)


class Examples(unittest.TestCase):

    def test_rows(self):
        self.assertEqual(unlike(ROWS, {function.__name__: function for function in ROW_NAMES}), [])

    def test_rules(self):
        self.assertEqual(unlike(RULES, {"Rule": Rule, "Step": Step}), [])

    def test_all_are_tried(self):
        self.assertEqual([len(parts_of(ROWS)), len(parts_of(RULES))], [6, 9])

    def test_a_wrong_one_is_found(self):
        wrong = ROWS.replace("('c', 'd'))", "('d', 'c'))")
        self.assertEqual(len(unlike(wrong, {function.__name__: function for function in ROW_NAMES})), 1)
