"""Point 5: Steps."""

import unittest

from tests.outside import all_rows, done
from touchcaps.errors import BadStep, BadText
from touchcaps.rules import Rule
from touchcaps.steps import Step

GOOD = [("touch", "a"), ("touch", "recent"), ("forget", "a"), ("forget", "cap"), ("cap", 1), ("cap", 10 ** 40)]


class Made(unittest.TestCase):

    def test_properties(self):
        for kind, what in GOOD:
            step = Step(kind, what)
            self.assertEqual((step.kind, step.what, step.text), (kind, what, f"{kind} {what}"))
            self.assertEqual(Step.of(step.text), step)
            self.assertEqual((Step.of(step.text).kind, Step.of(step.text).what), (kind, what))

    def test_the_number_of_a_cap_is_a_number(self):
        self.assertIs(type(Step.of("cap 12").what), int)

    def test_by_names(self):
        self.assertEqual(Step(kind="cap", what=2), Step("cap", 2))
        self.assertEqual(Step(what="a", kind="touch"), Step("touch", "a"))
        self.assertEqual(Step.of(text="cap 2"), Step("cap", 2))
        self.assertEqual(Step("cap", 1)(row=("a", "b")), ("a",))

    def test_no_setters(self):
        step = Step("touch", "a")
        for name, value in [("kind", "forget"), ("what", "b"), ("text", "touch b")]:
            with self.subTest(name), self.assertRaises(AttributeError):
                setattr(step, name, value)
        self.assertEqual((step.kind, step.what, step.text), ("touch", "a", "touch a"))

    def test_bad_steps(self):
        bad = [
            ("cap", 0), ("cap", -1), ("cap", -10 ** 40), ("cap", "a"), ("cap", "3"), ("cap", ""), ("cap", True),
            ("cap", False), ("cap", None), ("touch", ""), ("touch", "A"), ("touch", "a b"), ("touch", "a\n"),
            ("touch", 3), ("touch", None), ("touch", True), ("forget", ""), ("forget", "1"), ("forget", 0),
            ("forget", -5), ("", "a"), ("", 1), ("use", "a"), ("Touch", "a"), ("CAP", 3), ("cap ", 3), ("touch ", "a"),
            ("touc", "a"), ("forgets", "a"), ("a", "touch"), ("cut", 3), ("tou", "a"), ("ca", 1),
        ]
        for kind, what in bad:
            with self.subTest(repr((kind, what))), self.assertRaises(BadStep) as caught:
                Step(kind, what)
            self.assertEqual(repr(vars(caught.exception)), repr({"given": (kind, what)}))

    def test_what_a_bad_step_keeps_has_tuples_for_lists(self):
        for kind, what in [("cap", [1, ["a"]]), ("touch", ["a"]), (["touch"], "a")]:
            with self.subTest(repr((kind, what))), self.assertRaises(BadStep) as caught:
                Step(kind, what)
            self.assertNotIn("[", repr(caught.exception.given))
            self.assertIs(type(caught.exception.given), tuple)


class Texts(unittest.TestCase):

    def test_texts_of_no_step(self):
        texts = [
            "", "-", " ", "touch", "touch ", "touch  a", " touch a", "touch a ", "touch a b", "touch A", "touch 1",
            "touch a1", "touch -", "touch a;", "toucha", "Touch a", "TOUCH a", "touch\ta", "touch\na", "touch a\n",
            "touch \u00e9", "forget", "forget ", "forget  a", "forget a ", "forget 3", "forget A", "forget a, b",
            "cap", "cap ", "cap 0", "cap 00", "cap 03", "cap 010", "cap  3", " cap 3", "cap 3 ", "cap -1", "cap +3",
            "cap 3.0", "cap 1e3", "cap 1_000", "cap 0x3", "cap a", "cap 3a", "cap 3 4", "cap 3\n", "cap \n3", "cap3",
            "cap \u0663", "cap \u00b2", "cap \uff13", "cap none", "Cap 3", "cut 3", "use a", "touch a; cap 3", "a", "3",
        ]
        for text in texts:
            with self.subTest(text), self.assertRaises(BadText) as caught:
                Step.of(text)
            self.assertEqual(vars(caught.exception), {})

    def test_great_numbers(self):
        self.assertEqual(Step.of("cap 1" + 40 * "0").what, 10 ** 40)
        self.assertEqual(Step("cap", 10 ** 40 - 1).text, "cap " + 40 * "9")
        self.assertEqual(Step.of("cap " + 3996 * "9").what, 10 ** 3996 - 1)
        self.assertEqual(Step.of("cap 10").what, 10)


class Done(unittest.TestCase):

    def test_all_rows_of_a_few_names(self):
        for text in ["touch a", "touch c", "forget a", "forget c", "cap 1", "cap 2", "cap 3", "cap 4", "cap 9"]:
            for row in all_rows(("a", "b", "x", "y")):
                self.assertEqual(Step.of(text)(row), done(text, row))

    def test_lists_for_tuples(self):
        for text, row in [("touch a", ("a", "x", "b")), ("forget a", ("x", "b")), ("cap 2", ("x", "a"))]:
            given = ["x", "a", "b"]
            self.assertEqual(Step.of(text)(given), row)
            self.assertIs(type(Step.of(text)(given)), tuple)
            self.assertEqual(given, ["x", "a", "b"])

    def test_great_caps(self):
        self.assertEqual(Step("cap", 10 ** 40)(("a", "b")), ("a", "b"))
        self.assertEqual(Step("cap", 10 ** 40)(()), ())


class Equal(unittest.TestCase):

    def test_equal_if_kind_and_what_are(self):
        for place, given in enumerate(GOOD):
            for at, other in enumerate(GOOD):
                self.assertIs(Step(*given) == Step(*other), place == at)
                self.assertIs(Step(*given) != Step(*other), place != at)

    def test_a_step_equals_nothing_else(self):
        step = Step("touch", "a")
        for other in ["touch a", ("touch", "a"), ["touch", "a"], Rule([step]), Rule(), None, True, 0, (step,)]:
            self.assertIs(step == other, False)
            self.assertIs(step != other, True)
            self.assertIs(other == step, False)
