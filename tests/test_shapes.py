"""What point 5 leans on of point 6: the FORMs of Rules, told as the document tells them; and plain values."""

import unittest

from touchcaps.rules import Rule
from touchcaps.shapes import shape_of
from touchcaps.values import is_number, is_numeral

FORMS = {
    "-": ((), (), ()),
    "touch a; cap 3; touch b; cap 3; forget a": (("b",), ("a",), ((("a", "b"), 1),)),
    "cap 3; touch a; touch b; cap 4": (("b", "a"), (), (((), 3), (("a", "b"), 2))),
    "touch a; touch b; cap 2; forget b": (("a",), (), (((), 0),)),
    "cap 3; touch a; cap 3": (("a",), (), ((("a",), 2),)),
    "touch q; cap 1; forget q": ((), (), (((), 0),)),
    "forget c; touch b; forget a; touch b": (("b",), ("a", "c"), ()),
    "touch a; cap 3; touch a; cap 3; cap 7": (("a",), (), ((("a",), 2),)),
}


class Forms(unittest.TestCase):

    def test_forms(self):
        for text, form in FORMS.items():
            self.assertEqual(shape_of(Rule.of(text).steps), form)

    def test_the_form_of_the_plain_rule(self):
        for text, form in FORMS.items():
            self.assertEqual(shape_of((Rule.of(text) * 1).steps), form)


class Values(unittest.TestCase):

    def test_numbers(self):
        for thing in [0, 1, -1, 10 ** 40]:
            self.assertIs(is_number(thing), True)
        for thing in [True, False, None, "1", (1,), Rule()]:
            self.assertIs(is_number(thing), False)

    def test_numerals(self):
        for text in ["0", "1", "9", "10", "100", "1" + 40 * "0"]:
            self.assertIs(is_numeral(text), True)
        for text in ["", "00", "01", "-1", "+1", "1 ", " 1", "1.0", "1_0", "a", "\u0663", "\u00b2", "/", ":"]:
            self.assertIs(is_numeral(text), False)
