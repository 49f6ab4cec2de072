"""Point 5: Rules; what == and within and r * times decide is tried in test_alike.py."""

import unittest

from tests.outside import all_rows, made
from touchcaps.errors import BadText, NoPlace
from touchcaps.rules import Rule
from touchcaps.steps import Step

SIXTY = "; ".join(["touch a; forget b; cap 250; touch c; cap 200; forget a"] * 10)
LONG = tuple("x" * (place // 26 + 1) + chr(97 + place - place // 26 * 26) for place in range(298)) + ("a", "b")


class Made(unittest.TestCase):

    def test_properties(self):
        steps = (Step("touch", "a"), Step("cap", 3), Step("touch", "a"))
        rule = Rule(steps)
        self.assertEqual((rule.steps, rule.text, len(rule)), (steps, "touch a; cap 3; touch a", 3))
        self.assertIs(type(rule.steps), tuple)
        self.assertIs(type(Rule(list(steps)).steps), tuple)
        self.assertEqual(Rule.of(rule.text).steps, steps)
        self.assertEqual((Rule().steps, Rule().text, len(Rule())), ((), "-", 0))
        self.assertEqual((Rule(()).text, Rule([]).text, Rule.of("-").steps), ("-", "-", ()))

    def test_there_and_back(self):
        for text in ["-", "touch a", "cap 3; cap 3", "forget a; touch a", "cap 1" + 40 * "0", SIXTY]:
            self.assertEqual(Rule.of(text).text, text)
        self.assertEqual(len(Rule.of(SIXTY)), 60)

    def test_by_names(self):
        steps = (Step("touch", "a"),)
        self.assertEqual(Rule(steps=steps).steps, steps)
        self.assertEqual(Rule.of(text="touch a").steps, steps)
        self.assertEqual(Rule(steps)(row=("x",)), ("a", "x"))
        self.assertIs(Rule(steps).within(other=Rule(steps)), True)

    def test_no_setters(self):
        rule = Rule.of("touch a")
        for name, value in [("steps", ()), ("text", "-")]:
            with self.subTest(name), self.assertRaises(AttributeError):
                setattr(rule, name, value)
        self.assertEqual((rule.text, len(rule)), ("touch a", 1))

    def test_what_is_handed_in_may_change_later(self):
        steps = [Step("touch", "a"), Step("cap", 3)]
        rule = Rule(steps)
        steps.append(Step("touch", "b"))
        steps[0] = Step("forget", "a")
        self.assertEqual((rule.text, len(rule), rule(())), ("touch a; cap 3", 2, ("a",)))

    def test_what_is_handed_in_stays_as_it_was(self):
        steps, row = [Step("touch", "a"), Step("cap", 2)], ["x", "y", "a"]
        Rule(steps)(row)
        self.assertEqual((len(steps), row), (2, ["x", "y", "a"]))

    def test_texts_of_no_rule(self):
        texts = [
            "", " ", "--", "- ", "-; -", "-; touch a", "touch a; -", ";", "; ", "; touch a", "touch a;", "touch a; ",
            "touch a;cap 3", "touch a ;cap 3", "touch a ; cap 3", "touch a;  cap 3", "touch a; ; cap 3", " touch a",
            "touch a ", "touch a, cap 3", "touch a\ncap 3", "touch a;\ncap 3", "touch a; cap 3\n", "touch a; cap 0",
            "touch a; cap 03", "touch a; cap", "touch a; cap x", "touch a; touch A", "cap 3; use a", "(touch a) x 2",
            "touch  a; cap 3", "Touch a; cap 3", "touch a cap 3", "cap 3; cap \u0663",
        ]
        for text in texts:
            with self.subTest(text), self.assertRaises(BadText) as caught:
                Rule.of(text)
            self.assertEqual(vars(caught.exception), {})


class Places(unittest.TestCase):

    def test_places(self):
        rule = Rule.of("touch a; cap 3; forget b")
        self.assertEqual([rule[place].text for place in range(3)], ["touch a", "cap 3", "forget b"])
        self.assertEqual(rule[2], Step("forget", "b"))

    def test_no_places(self):
        rule = Rule.of("touch a; cap 3; forget b")
        for place in [3, 4, -1, -3, -4, 10 ** 40, -10 ** 40]:
            with self.subTest(place), self.assertRaises(NoPlace) as caught:
                rule[place]
            self.assertEqual(vars(caught.exception), {"place": place})
        for place in [0, -1]:
            with self.subTest(place), self.assertRaises(NoPlace):
                Rule()[place]
        self.assertEqual((rule.text, len(rule)), ("touch a; cap 3; forget b", 3))

    def test_no_iteration(self):
        for rule in [Rule(), Rule.of("touch a; cap 3")]:
            for gone_through in [iter, list, tuple, sorted, lambda own: [step for step in own], lambda own: 1 in own]:
                with self.assertRaises(TypeError):
                    gone_through(rule)


class Done(unittest.TestCase):

    def test_step_by_step(self):
        for text in ["-", "touch a; cap 2; forget b; touch c", "cap 3; touch a; cap 3", "touch q; cap 1; forget q"]:
            for row in all_rows(("a", "b", "c", "x")):
                self.assertEqual(Rule.of(text)(row), made(text, row))

    def test_lists_for_tuples(self):
        for text, row in [("-", ("x", "a")), ("touch a", ("a", "x")), ("cap 1", ("x",)), ("cap 9", ("x", "a"))]:
            self.assertEqual(Rule.of(text)(["x", "a"]), row)
            self.assertIs(type(Rule.of(text)(["x", "a"])), tuple)

    def test_long_rules_and_long_rows(self):
        self.assertEqual(len(set(LONG)), 300)
        self.assertEqual(Rule.of(SIXTY)(LONG), made(SIXTY, LONG))
        self.assertEqual(Rule()(LONG), LONG)
        self.assertEqual(Rule.of("cap 1" + 40 * "0")(LONG), LONG)


class Behind(unittest.TestCase):

    def test_the_steps_of_both(self):
        rule, other = Rule.of("touch a; cap 3"), Rule.of("forget b; touch c")
        self.assertEqual((rule >> other).text, "touch a; cap 3; forget b; touch c")
        self.assertEqual((other >> rule).text, "forget b; touch c; touch a; cap 3")
        self.assertEqual((rule >> Step("cap", 2)).text, "touch a; cap 3; cap 2")
        self.assertEqual((Rule() >> rule).text, rule.text)
        self.assertEqual((rule >> Rule()).text, rule.text)
        self.assertEqual((Rule() >> Step("cap", 2)).text, "cap 2")
        self.assertEqual((Rule() >> Rule()).text, "-")
        self.assertEqual((rule.text, other.text), ("touch a; cap 3", "forget b; touch c"))

    def test_nothing_else_stands_behind(self):
        for other in ["cap 3", 3, None, (Step("cap", 3),), []]:
            with self.assertRaises(TypeError):
                Rule.of("touch a") >> other

    def test_sixty_steps_and_more(self):
        self.assertEqual(len(Rule.of(SIXTY) >> Rule.of(SIXTY)), 120)


class Nothing(unittest.TestCase):

    def test_a_rule_equals_nothing_else(self):
        rule = Rule.of("touch a")
        others = [Step("touch", "a"), "touch a", ("touch a",), rule.steps, None, 0, True, [rule], (rule,)]
        for other in others:
            self.assertIs(rule == other, False)
            self.assertIs(rule != other, True)
            self.assertIs(other == rule, False)
        self.assertIs(Rule() == (), False)
        self.assertIs(Rule() == "-", False)
        self.assertIs(Rule() == None, False)  # noqa: E711
