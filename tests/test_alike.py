"""Points 5 and 6: what ==, within and r * times decide, beside what the rules make of all rows of a few NAMEs."""

import random
import unittest

from tests.outside import Seen, all_rows, is_plain, made, rows_up_to_strangers, texts_to
from touchcaps.rules import Rule

SMALL = ["touch a", "touch b", "forget a", "forget b", "cap 1", "cap 2", "cap 3"]
STRANGERS = ("v", "w", "x", "y")
TIMES = [0, 1, 2, 3, 4, 7]


def seen_by_text(texts, rows):
    return {text: Seen(text, rows) for text in texts}


def made_again(text, row, times):
    for _ in range(times):
        row = made(text, row)
    return row


class Decided(unittest.TestCase):

    def both_ways(self, texts, rows):
        seen = seen_by_text(texts, rows)
        rules = {text: Rule.of(text) for text in texts}
        for one in texts:
            for other in texts:
                if (rules[one] == rules[other]) is not seen[one].alike(seen[other]):
                    self.fail(f"== of {one!r} and {other!r}")
                if rules[one].within(rules[other]) is not seen[one].within(seen[other]):
                    self.fail(f"within of {one!r} and {other!r}")

    def test_all_rules_of_two_steps_and_all_rows(self):
        self.both_ways(texts_to(2, SMALL), all_rows(("a", "b", *STRANGERS)))

    def test_rules_of_three_steps(self):
        rows = rows_up_to_strangers(("a", "b"), STRANGERS)
        texts = [text for text in texts_to(3, SMALL) if text.count(";") == 2]
        self.both_ways(random.Random(3).sample(texts, 150), rows)

    def test_longer_rules(self):
        rows = rows_up_to_strangers(("a", "b", "c"), ("u", "v", "w", "x", "y", "z"))
        parts = [f"{kind} {name}" for kind in ("touch", "forget") for name in "abc"]
        parts.extend(f"cap {number}" for number in (1, 2, 3, 3, 4, 4, 5, 5))
        chance = random.Random(5)
        texts = ["; ".join(chance.choices(parts, k=chance.randint(4, 9))) for _ in range(60)]
        for text in list(texts):
            steps = text.split("; ")
            at = chance.randrange(len(steps))
            texts.append("; ".join([*steps[:at], chance.choice(parts), *steps[at:]]))
            texts.append("; ".join([*steps[:at], *steps[at + 1:]]))
        self.both_ways(texts, rows)

    def test_strict_truth_values(self):
        rule, other = Rule.of("touch a; cap 3"), Rule.of("cap 3; touch a")
        self.assertIs(rule == other, False)
        self.assertIs(rule == Rule.of("touch a; cap 3"), True)
        self.assertIs(rule != other, True)
        self.assertIs(rule.within(other), True)
        self.assertIs(other.within(rule), False)


class Edges(unittest.TestCase):

    def alike(self, one, other):
        self.assertIs(Rule.of(one) == Rule.of(other), True)
        self.assertIs(Rule.of(other) == Rule.of(one), True)
        self.assertIs(Rule.of(one).within(Rule.of(other)), True)
        self.assertIs(Rule.of(other).within(Rule.of(one)), True)

    def strictly_within(self, one, other):
        self.assertIs(Rule.of(one) == Rule.of(other), False)
        self.assertIs(Rule.of(one).within(Rule.of(other)), True)
        self.assertIs(Rule.of(other).within(Rule.of(one)), False)

    def apart(self, one, other):
        self.assertIs(Rule.of(one) == Rule.of(other), False)
        self.assertIs(Rule.of(one).within(Rule.of(other)), False)
        self.assertIs(Rule.of(other).within(Rule.of(one)), False)

    def test_without_steps(self):
        self.alike("-", "-")
        self.strictly_within("cap 1" + 40 * "0", "-")
        self.strictly_within("forget a", "-")
        self.strictly_within("-", "touch a")

    def test_great_caps(self):
        great = 10 ** 40
        self.strictly_within(f"cap {great - 1}", f"cap {great}")
        self.strictly_within(f"touch a; cap {great}", f"cap {great}; touch a")
        self.alike(f"touch a; cap {great}", f"forget a; cap {great - 1}; touch a")
        self.alike(f"cap {great}; cap {great - 1}", f"cap {great - 1}")

    def test_names_of_any_length(self):
        self.apart("touch recently", "touch recent")
        self.alike("touch recently; cap 1", "touch recent; touch recently; cap 1")

    def test_constant_rules(self):
        nothing = "touch a; cap 1; forget a"
        self.alike(nothing, "touch b; cap 1; forget b")
        self.alike("touch a; touch b; cap 2; forget b", "touch a; cap 1")
        self.alike("touch b; touch a; cap 1", "touch a; cap 1")
        self.alike("touch a; cap 1; touch b; cap 5", "touch a; touch b; cap 2")
        self.strictly_within(nothing, "touch a; cap 1")
        self.strictly_within(nothing, "forget a; cap 1")
        self.strictly_within("touch a; cap 1", "touch a; cap 2")
        self.strictly_within("touch a; cap 1", "cap 1; touch a")
        self.apart("touch a; cap 1", "cap 1; touch b")
        self.apart("touch a; cap 1", "cap 1")
        self.apart("touch a; cap 1", "touch b; cap 1")

    def test_one_order_and_another(self):
        one, other = Rule.of("touch a; touch b"), Rule.of("touch b; touch a")
        self.assertIs(one == other, False)
        self.assertIs(one.within(other) and other.within(one), True)
        one, other = one >> Rule.of("cap 2"), other >> Rule.of("cap 2")
        self.assertIs(one == other, False)
        self.assertIs(one.within(other) and other.within(one), True)

    def test_names_of_one_rule_alone(self):
        self.apart("forget a", "forget b")
        self.strictly_within("forget a", "forget b; touch a; touch b")
        self.strictly_within("forget a; forget b", "forget a")
        self.strictly_within("forget a; cap 2", "cap 3; forget a")
        self.strictly_within("cap 2", "cap 2; touch b")
        self.apart("touch a; cap 3", "cap 2; touch b")

    def test_sixty_steps(self):
        text = "; ".join(["touch a; cap 9; touch b; cap 9; forget a; cap 8"] * 10)
        self.alike(text, "forget a; forget b; cap 7; touch b")
        many = "; ".join([f"touch {chr(97 + at)}{chr(97 + at)}; cap {50 - at}" for at in range(25)])
        self.assertEqual(len(Rule.of(many)), 50)
        self.assertIs(Rule.of(many) == Rule.of(many), True)
        ends = "; ".join(f"touch {chr(97 + at)}{chr(97 + at)}" for at in range(25))
        self.strictly_within(many, ends)
        self.alike(many, ends + "; cap 26")
        row = tuple(chr(97 + at) for at in range(26))
        self.assertEqual(Rule.of(many)(row), Rule.of(ends + "; cap 26")(row))


class Repeated(unittest.TestCase):

    def repeated(self, text, rows):
        rule = Rule.of(text)
        for times in TIMES:
            again = rule * times
            self.assertTrue(is_plain(again.text), (text, times, again.text))
            if [made(again.text, row) for row in rows] != [made_again(text, row, times) for row in rows]:
                self.fail(f"{text!r} * {times}")
        self.assertEqual((rule * 10 ** 40).text, (rule * 2).text)
        self.assertEqual((rule * 0).text, "-")
        self.assertEqual(rule.text, text)

    def test_small_rules(self):
        rows = rows_up_to_strangers(("a", "b"), STRANGERS)
        texts = texts_to(3, SMALL)
        for text in [*texts_to(2, SMALL), *random.Random(1).sample(texts, 150)]:
            self.repeated(text, rows)

    def test_longer_rules(self):
        rows = rows_up_to_strangers(("a", "b", "c"), ("v", "w", "x", "y", "z"))
        self.repeated("forget a; cap 3; forget b; forget c; cap 2", rows)
        parts = [f"{kind} {name}" for kind in ("touch", "touch", "forget") for name in "abc"]
        parts.extend(f"cap {number}" for number in (1, 2, 3, 3, 4, 4))
        chance = random.Random(2)
        for _ in range(60):
            self.repeated("; ".join(chance.choices(parts, k=chance.randint(4, 9))), rows)

    def test_alike_rules_have_one_plain_rule(self):
        rows = rows_up_to_strangers(("a", "b"), STRANGERS)
        plain_texts, results = {}, {}
        for text in texts_to(3, SMALL):
            result = tuple(made(text, row) for row in rows)
            plain_texts.setdefault(result, set()).add((Rule.of(text) * 1).text)
            results.setdefault((Rule.of(text) * 1).text, set()).add(result)
        self.assertEqual({len(texts) for texts in plain_texts.values()}, {1})
        self.assertEqual({len(found) for found in results.values()}, {1})

    def test_plain_texts(self):
        for text, plain in [
            ("-", "-"), ("touch b; touch a", "touch b; touch a"), ("forget b; forget a", "forget a; forget b"),
            ("cap 3; touch a; touch b; cap 4", "cap 3; forget a; forget b; cap 2; touch a; touch b"),
            ("touch a; cap 3; touch b; cap 3; forget a", "forget a; forget b; cap 1; touch b"),
            ("touch a; touch b; cap 2; forget b", "touch a; cap 1"),
            ("touch q; cap 1; forget q", "touch a; cap 1; forget a"),
            ("touch b; touch c; touch a; cap 3", "touch b; touch c; touch a; cap 3"),
            ("cap 3; cap 3", "cap 3"), ("cap 5; cap 4", "cap 4"), ("cap 4; cap 5", "cap 4"),
            ("forget a; cap 3; forget b; forget c; cap 2", "forget a; cap 3; forget b; forget c; cap 2"),
            ("touch a; cap 4; touch c; touch b; cap 5; forget a",
             "forget a; cap 3; forget b; forget c; cap 2; touch c; touch b"),
            ("touch d; touch a; cap 9; cap 5; touch c; touch b; cap 6",
             "forget a; forget d; cap 3; forget b; forget c; cap 2; touch d; touch a; touch c; touch b"),
            ("touch z; cap 9; forget z; forget b; touch c; forget a", "forget z; cap 8; forget a; forget b; touch c"),
        ]:
            self.assertEqual((Rule.of(text) * 1).text, plain)

    def test_a_rule_of_no_times_has_no_steps(self):
        for text in ["-", "touch a", "touch a; cap 1", "touch a; cap 1; forget a", "cap 3; touch a"]:
            self.assertEqual((Rule.of(text) * 0).steps, ())

    def test_great_numbers(self):
        great = 10 ** 40
        self.assertEqual((Rule.of(f"cap {great}; touch a") * great).text, f"forget a; cap {great - 1}; touch a")
        self.assertEqual((Rule.of(f"cap {great}; touch a") * 1).text, f"cap {great}; touch a")

    def test_sixty_steps(self):
        text = "; ".join(["touch a; cap 9; touch b; cap 9; forget a; cap 8"] * 10)
        self.assertEqual((Rule.of(text) * 10 ** 40).text, "forget a; forget b; cap 7; touch b")

    def test_the_number_stands_behind_the_rule(self):
        with self.assertRaises(TypeError):
            2 * Rule.of("touch a")
        for times in ["2", None, True, Rule()]:
            with self.assertRaises(TypeError):
                Rule.of("touch a") * times
