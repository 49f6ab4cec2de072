"""Point 11: rules told back from rows, beside all rules over a few NAMEs."""

import random
import unittest
from functools import cache
from itertools import combinations, permutations, product

from tests.moments import at_once
from tests.outside import all_rows, made
from tests.small import constant_text, plain_text, small_forms, small_texts
from touchcaps.errors import Known, Unfit
from touchcaps.forms import plain, rule_of
from touchcaps.rules import Rule
from touchcaps.tells import Hunt, all_fitting, fits, in_order, question, read_off, sure, telling_rows

GREAT = 10 ** 40
NOTHING = "touch a; cap 1; forget a"
SIX = ("a", "b", "c", "d", "e", "f")
once_made = cache(made)


def is_in_order(form, order):
    front, gone, bounds = form
    known = [name for name in order if name in front or name in gone]
    return len(known) == len(front) + len(gone) and all(set(own) == set(known[:len(own)]) for own, _ in bounds)


def texts_in_order(order, most):
    """The plain texts of all rules that are in order, with bounds to most."""
    forms = [form for form in small_forms(tuple(sorted(order)), most) if is_in_order(form, order)]
    return [*[plain_text(*form) for form in forms], *[constant_text(row) for row in all_rows(order)]]


def drawn_rule(chance, names, most):
    """The text of a rule over these names to most, with many bounds."""
    order = chance.sample(names, chance.randint(0, len(names)))
    steps = []
    for place, name in enumerate(order):
        steps.append(f"forget {name}")
        if chance.random() < 0.6:
            steps.append(f"cap {max(1, most - chance.randint(0, place + 2))}")
    steps.extend(f"touch {name}" for name in chance.sample(order, chance.randint(0, len(order))))
    return "; ".join(steps) or "-"


class Fitting(unittest.TestCase):

    def test_fits(self):
        chance = random.Random(101)
        rows = all_rows(("a", "x", "y"))
        for text in small_texts(("a", "b"), 2):
            logs = tuple((row, made(text, row)) for row in chance.sample(rows, 4))
            self.assertIs(fits(Rule.of(text), logs), True)
            wrong = (*logs, (rows[-1], (*made(text, rows[-1]), "z")))
            self.assertIs(fits(Rule.of(text), wrong), False)
            self.assertIs(fits(Rule.of(text), wrong[::-1]), False)
        self.assertIs(fits(Rule(), ()), True)

    def told(self, names, most, logs, row):
        """What all rules over these names to most that fit tell, and how many they are."""
        texts = sorted(
            text for text in small_texts(names, most) if all(once_made(text, own) == out for own, out in logs)
        )
        self.assertEqual([rule.text for rule in all_fitting(names, most, logs)], texts)
        if not texts:
            self.unfit(names, most, logs)
            return 0
        rows = {once_made(text, row) for text in texts}
        self.assertEqual(sure(names, most, logs, row), rows.pop() if len(rows) == 1 else None)
        asked = question(names, most, logs)
        if len(texts) == 1:
            self.assertIsNone(asked)
        else:
            self.assertGreater(len({made(text, asked) for text in texts}), 1)
        return len(texts)

    def unfit(self, names, most, logs):
        for call in (lambda: sure(names, most, logs, ()), lambda: question(names, most, logs)):
            with self.assertRaises(Unfit) as caught:
                call()
            self.assertEqual(vars(caught.exception), {})

    def test_all_rules_over_two_names(self):
        chance = random.Random(103)
        for names, most in [((), 1), ((), 4), (("a",), 1), (("a",), 3), (("a", "b"), 1), (("a", "b"), 2), (("b", "d"), 4)]:
            rows = all_rows((*names, "x", "y"))
            found = set()
            for text in [*small_texts(names, most), *small_texts(("a", "c"), 2)]:
                logs = tuple((row, made(text, row)) for row in chance.sample(rows, chance.randint(0, 3)))
                many = self.told(names, most, logs, chance.choice(rows))
                found.add(many if many < 2 else 2)
            self.assertEqual(found, {0, 1, 2})

    def test_three_names(self):
        chance = random.Random(107)
        rows = all_rows(("a", "b", "c", "x", "y"))
        for text in chance.sample(small_texts(("a", "b", "c"), 2), 25):
            logs = tuple((row, made(text, row)) for row in chance.sample(rows, chance.randint(1, 4)))
            self.assertGreater(self.told(("a", "b", "c"), 2, logs, chance.choice(rows)), 0)

    def test_all_of_them(self):
        for names, most in [((), 1), (("a",), 2), (("a", "b"), 2), (("a", "b", "c"), 1)]:
            self.assertEqual(len(all_fitting(names, most, ())), len(small_texts(names, most)))
        self.assertEqual([rule.text for rule in all_fitting((), 1, ())], ["-", "cap 1", NOTHING])

    def test_questions_lead_to_the_rule(self):
        for text in small_texts(("a", "b"), 2)[::6]:
            logs, asked = (), question(("a", "b"), 2, ())
            while asked is not None:
                self.assertNotIn(asked, [row for row, _ in logs])
                logs = (*logs, (asked, made(text, asked)))
                asked = question(("a", "b"), 2, logs)
            self.assertEqual([rule.text for rule in all_fitting(("a", "b"), 2, logs)], [text])

    def test_the_greatest(self):
        names = ("a", "b", "c")
        others = [chr(97 + at // 26) + chr(97 + at % 26) for at in range(297)]
        row = (*others[:150], *names, *others[150:])
        every = at_once(all_fitting, names, 4, ())
        self.assertEqual(len(every), len(small_texts(names, 4)))
        for text in ["-", "cap 4; forget a; forget c; cap 3; touch a", "touch b"]:
            rows = [row, row[::-1], others, row[:20], row[148:], row[149:], ("a", "b", "c"), ()]
            logs = tuple((tuple(own), made(text, tuple(own))) for own in rows)
            self.assertIn(plain(Rule.of(text)).text, [rule.text for rule in at_once(all_fitting, names, 4, logs)])
            self.assertEqual(at_once(sure, names, 4, logs, row), made(text, row))
            at_once(question, names, 4, logs)
        self.assertIsNone(at_once(sure, names, 4, (), row))
        self.assertIsNotNone(at_once(question, names, 4, ()))


class ReadOff(unittest.TestCase):

    def test_all_rules_over_a_few_names(self):
        for names, most in [((), 1), ((), 4), (("a",), 3), (("a", "b"), 3), (("b", "e"), 1), (("a", "b", "c"), 2)]:
            rows = telling_rows(names, most)
            self.assertEqual((len(rows), type(rows)), (2 ** len(names), tuple))
            texts = small_texts(names, most)
            told = [tuple(made(text, row) for row in rows) for text in texts]
            self.assertEqual(len(set(told)), len(texts))
            for text, rows_told in zip(texts, told):
                self.assertEqual(read_off(names, most, rows_told).text, text)

    def test_any_two_are_told_apart(self):
        chance = random.Random(109)
        rows = telling_rows(SIX[:4], 3)
        texts = {plain(Rule.of(drawn_rule(chance, SIX[:4], 3))).text for _ in range(400)}
        self.assertGreater(len(texts), 200)
        self.assertEqual(len({tuple(made(text, row) for row in rows) for text in texts}), len(texts))

    def test_rules_that_are_not_over_these_names(self):
        rows = telling_rows(("a", "b"), 2)
        over = {tuple(made(text, row) for row in rows): text for text in small_texts(("a", "b"), 2)}
        strange = [
            "cap 3", "touch c", "forget c", "cap 4; touch a", "cap 3; forget a; forget b; cap 2", "touch c; cap 1",
            "touch q; cap 1", "forget a; forget c; cap 2", "touch a; touch c; cap 2", "cap 3; forget a; touch b",
        ]
        unfit = 0
        for text in strange:
            told = tuple(made(text, row) for row in rows)
            if told in over:
                # A rule that makes just these is what is asked for.
                self.assertEqual(read_off(("a", "b"), 2, told).text, over[told])
            else:
                unfit += 1
                self.unfit(("a", "b"), 2, told)
        self.assertGreater(unfit, 6)

    def unfit(self, names, most, told):
        with self.assertRaises(Unfit) as caught:
            read_off(names, most, told)
        self.assertEqual(vars(caught.exception), {})

    def test_what_no_rule_makes(self):
        chance = random.Random(113)
        for names, most in [((), 2), (("a",), 2), (("a", "b"), 2)]:
            rows = telling_rows(names, most)
            outs = {tuple(made(text, row) for row in rows) for text in small_texts(names, most)}
            parts = sorted({row for told in outs for row in told} | {(), ("q",), ("a", "q"), ("b",), rows[-1][::-1]})
            unfit = 0
            for _ in range(300):
                told = tuple(chance.choice(parts) for _ in rows)
                if chance.random() < 0.5:
                    told = list(chance.choice(sorted(outs)))
                    told[chance.randrange(len(told))] = chance.choice(parts)
                if tuple(told) not in outs:
                    unfit += 1
                    self.unfit(names, most, told)
            self.assertGreater(unfit, 50)

    def test_too_few_or_too_many_rows(self):
        rows = [made("cap 1", row) for row in telling_rows(("a",), 2)]
        self.assertEqual(read_off(("a",), 2, rows).text, "cap 1")
        for told in [(), rows[:1], [*rows, rows[1]]]:
            self.unfit(("a",), 2, told)
        self.unfit((), 2, ())

    def test_six_names(self):
        chance = random.Random(127)
        rows = at_once(telling_rows, SIX, 20)
        self.assertEqual(len(rows), 64)
        for text in [*[drawn_rule(chance, SIX, 20) for _ in range(30)], "touch f; cap 1", NOTHING, "-", "cap 20", "touch c"]:
            told = tuple(made(text, row) for row in rows)
            self.assertEqual(at_once(read_off, SIX, 20, told).text, plain(Rule.of(text)).text)
            self.unfit(SIX, 20, (*told[:-1], (*told[-1], "zzz")))


class InOrder(unittest.TestCase):

    def test_all_small_rules(self):
        for form in small_forms(("a", "b", "c"), 2):
            for order in [(), ("a", "b"), ("c", "b", "a"), ("b", "c", "x", "a"), ("a", "c", "b"), ("x",)]:
                self.assertIs(in_order(rule_of(form), order), is_in_order(form, order), (form, order))

    def test_constant_rules(self):
        for row in all_rows(("a", "b")):
            rule = Rule.of(constant_text(row))
            for order in [(), ("a",), ("b", "a"), ("b", "x", "a"), ("b",)]:
                self.assertIs(in_order(rule, order), set(row) <= set(order))

    def test_names_that_are_named_in_order(self):
        # Just those are in order whose steps can name the NAMEs for the first time in this order.
        parts = [f"{kind} {name}" for kind in ("touch", "forget") for name in "ab"] + ["cap 1", "cap 2", "cap 3", "cap 4"]
        found = set()
        for many in range(6):
            for row in product(parts, repeat=many):
                firsts = list(dict.fromkeys(part[-1] for part in row if part[:3] != "cap"))
                if firsts == sorted(firsts):
                    rule = Rule.of("; ".join(row) or "-")
                    found.add(plain(rule).text)
                    if many < 4:
                        self.assertIs(in_order(rule, ("a", "b")), True)
        self.assertEqual(set(texts_in_order(("a", "b"), 2)) - found, set())


class Hunted(unittest.TestCase):

    def hunted(self, order, most, text):
        hunt = Hunt(order, most)
        while hunt.rule is None:
            self.assertIs(type(hunt.ask), tuple)
            self.assertIsNone(hunt.tell(made(text, hunt.ask)))
        self.assertEqual(hunt.rule.text, text)
        self.assertIsNone(hunt.ask)
        self.assertLessEqual(len(hunt), len(order) + 1, (order, most, text))
        self.assertEqual(len(hunt.answers), len(hunt))
        self.assertTrue(all(made(text, row) == out for row, out in hunt.answers))

    def test_all_rules_in_order(self):
        for names in [(), ("a",), ("a", "b"), ("a", "b", "c")]:
            for order in list(permutations(names))[::2]:
                for most in (1, 2, 4):
                    for text in texts_in_order(order, most):
                        self.hunted(order, most, text)

    def test_known_as_soon_as_there_is_only_one(self):
        for order, most in [((), 1), (("b",), 1), (("b",), 3), (("b", "a"), 1), (("b", "a"), 2), (("c", "a", "b"), 1)]:
            texts = texts_in_order(order, most)
            for text in texts:
                hunt, left = Hunt(order, most), texts
                self.assertGreater(len(left), 1)
                while hunt.rule is None:
                    asked = hunt.ask
                    hunt.tell(once_made(text, asked))
                    left = [own for own in left if once_made(own, asked) == once_made(text, asked)]
                    self.assertIs(hunt.rule is None, len(left) > 1, (order, most, text))

    def test_what_a_hunt_keeps(self):
        order = ["b", "a"]
        hunt = Hunt(order, 3)
        order.append("c")
        order[0] = "d"
        rule, turns = Rule.of("cap 3; touch b; touch a"), []
        self.assertEqual((hunt.answers, len(hunt), hunt.rule), ((), 0, None))
        while hunt.rule is None:
            asked = hunt.ask
            self.assertEqual(hunt.ask, asked)
            out = list(rule(asked))
            hunt.tell(out if len(turns) else tuple(out))
            turns.append((asked, tuple(out)))
            out.append("z")
            self.assertEqual((hunt.answers, len(hunt)), (tuple(turns), len(turns)))
        self.assertEqual(hunt.rule.text, "cap 3; touch b; touch a")
        for name in ("ask", "rule", "answers"):
            with self.assertRaises(AttributeError):
                setattr(hunt, name, None)
        with self.assertRaises(TypeError):
            iter(hunt)

    def test_known(self):
        hunt = Hunt((), 1)
        hunt.tell(Rule.of("cap 1")(hunt.ask))
        for out in [(), ("a",), hunt.answers[0][1]]:
            with self.assertRaises(Known) as caught:
                hunt.tell(out)
            self.assertEqual(vars(caught.exception), {})
            self.assertEqual((hunt.rule.text, len(hunt), hunt.ask), ("cap 1", 1, None))

    def test_equal_to_nothing_else(self):
        hunt = Hunt(("a",), 2)
        for other in (None, 0, "a", ("a",), Rule(), Hunt(("b",), 2)):
            self.assertIs(hunt == other, False)
        self.assertIs(hunt == hunt, True)

    def test_lists_and_names(self):
        one, other = Hunt(("b", "a"), 3), Hunt(most=3, order=["b", "a"])
        rule = Rule.of("cap 3; forget b; touch a")
        while one.rule is None:
            self.assertEqual(one.ask, other.ask)
            one.tell(rule(one.ask))
            other.tell(out=list(rule(other.ask)))
        self.assertEqual((one.rule.text, one.answers), (other.rule.text, other.answers))

    def test_twenty_names(self):
        chance = random.Random(131)
        order = tuple(chr(97 + at) for at in range(20))[::-1]
        for _ in range(40):
            most = chance.choice((1, 2, 20, 100))
            steps, touched = [], []
            for name in order:
                if chance.random() < 0.8:
                    steps.append(f"{chance.choice(['touch', 'forget'])} {name}")
                    touched.append(name)
                if chance.random() < 0.5:
                    steps.append(f"cap {chance.randint(max(1, most - 4), most)}")
            steps.extend(f"touch {name}" for name in chance.sample(touched, len(touched) // 2))
            text = plain(Rule.of("; ".join(steps) or "-")).text
            at_once(self.hunted, order, most, text)
        for text in ["-", f"cap {100}", NOTHING, "; ".join([f"touch {name}" for name in order])]:
            at_once(self.hunted, order, 100, text)

    def test_names_and_others(self):
        for names in combinations(("aa", "a", "b", "z"), 2):
            for text in texts_in_order(names, 2):
                self.hunted(names, 2, text)
