"""Point 9: rules counted and numbered, beside all small ones, counted one by one."""

import random
import unittest
from itertools import product

from tests.moments import at_once, within_seconds
from tests.outside import Seen, is_plain, made, rows_up_to_strangers
from tests.small import bound_lists, forms_naming, fronts_within, lists_below, plain_text, reach, small_texts
from touchcaps.errors import NoNumber, NotBetween, OtherNames
from touchcaps.forms import bounds, form_of, front, gone, plain, rule_of
from touchcaps.numbers import (
    how_many, how_many_bounds, how_many_to, many_between, nth, nth_between, number_of, rank_between,
)
from touchcaps.order import height
from touchcaps.rules import Rule

GREAT = 10 ** 40
NAMES = ("a", "b", "c", "d", "e", "f")
# All bounded Rules that name just these NAMEs, with last number 2, in their order, as (front, bounds).
IN_ORDER = {
    many: sorted((row, own) for row in fronts_within(NAMES[:many]) for own in bound_lists(NAMES[:many], 2))
    for many in range(4)
}


def texts_naming(names, most):
    return [plain_text(*form) for form in forms_naming(names, most)]


class Counted(unittest.TestCase):

    def test_lists_of_bounds(self):
        for many in range(5):
            for last in (1, 2, 7):
                self.assertEqual(how_many_bounds(many), len(bound_lists(NAMES[:many], last)))

    def test_bounded_rules(self):
        for many in range(4):
            self.assertEqual(how_many(many), len(IN_ORDER[many]))
        self.assertEqual([how_many(many) for many in range(5)], [how_many_bounds(many) ** 2 for many in range(5)])

    def test_rules_to_a_number(self):
        for many in range(4):
            for most in range(5):
                self.assertEqual(how_many_to(many, most), len(forms_naming(NAMES[:many], most)), (many, most))

    def test_no_two_are_alike_from_outside(self):
        for many, most in [(0, 4), (1, 3), (2, 3), (3, 1)]:
            rows = rows_up_to_strangers(NAMES[:many], tuple("mnopqrst"[:most + 1]))
            found = {tuple(made(text, row) for row in rows) for text in texts_naming(NAMES[:many], most)}
            self.assertEqual(how_many_to(many, most), len(found))

    def test_none_is_left_out(self):
        # Whatever the steps are, the Rule is one of those that are counted.
        chance = random.Random(71)
        parts = [f"{kind} {name}" for kind in ("touch", "forget") for name in "ab"]
        parts.extend(f"cap {number}" for number in (2, 3, 4, 5, 6))
        rows = rows_up_to_strangers(("a", "b"), ("u", "v", "w", "x", "y"))
        known = [Seen(text, rows) for text in small_texts(("a", "b"), 4)]
        seen = [own.made for own in known]
        tried = 0
        for _ in range(150):
            text = "; ".join(chance.choices(parts, k=chance.randint(1, 7)))
            if all(number <= 4 for _, number in bounds(Rule.of(text))):
                self.assertEqual(seen.count([made(text, row) for row in rows]), 1, text)
                tried += 1
        self.assertGreater(tried, 80)

    def test_great_numbers(self):
        self.assertEqual(how_many_bounds(10), 9864101)
        self.assertEqual(how_many(10), 9864101 ** 2)
        factorial, rows = 1, 1
        for number in range(1, 101):
            factorial, rows = factorial * number, rows * number + 1
        self.assertEqual(at_once(how_many_bounds, 100), rows)
        self.assertEqual(at_once(how_many, 100), rows * rows)
        self.assertEqual(rows, sum(self.ways(100, many) for many in range(101)))

    def ways(self, number, many):
        """How many ROWs of so many of so many NAMEs there are."""
        found = 1
        for less in range(many):
            found *= number - less
        return found

    def test_great_numbers_to_a_number(self):
        self.assertEqual(how_many_to(0, GREAT), GREAT + 1)
        self.assertEqual(how_many_to(1, GREAT), 2 * (2 * GREAT + 1))
        self.assertEqual(how_many_to(2, GREAT), 5 * (4 * GREAT + (GREAT - 1) + 1))
        # Where most is great, one more lets through one more of each list.
        for number in (5, 17, 30):
            more = at_once(how_many_to, number, GREAT) - at_once(how_many_to, number, GREAT - 1)
            self.assertEqual(more, how_many(number))
            self.assertEqual(at_once(how_many_to, number, 0), how_many_bounds(number))
            # One bound alone has the number 1: its set is any.
            self.assertEqual(how_many_to(number, 1), how_many_bounds(number) * (2 ** number + 1))


class Numbered(unittest.TestCase):

    def test_all_in_their_order(self):
        for many, found in IN_ORDER.items():
            names = NAMES[:many]
            for number, (row, own) in enumerate(found):
                rule = nth(names, 2, number)
                self.assertEqual(form_of(rule), (row, tuple(name for name in names if name not in row), own))
                self.assertEqual(rule.text, plain_text(*form_of(rule)))
                self.assertEqual(number_of(rule), number)

    def test_other_last_numbers(self):
        for last in (1, 3, GREAT):
            for number in range(0, 25, 3):
                rule, other = nth(("a", "b"), last, number), nth(("a", "b"), 2, number)
                self.assertEqual((front(rule), gone(rule)), (front(other), gone(other)))
                self.assertEqual(bounds(rule), tuple((names, many - 2 + last) for names, many in bounds(other)))
                self.assertEqual(number_of(rule), number)

    def test_six_names(self):
        names = ("aa", "b", "ba", "c", "cc", "z")
        every = how_many(6)
        self.assertEqual(every, 1957 ** 2)
        numbers = [0, 1, 1956, 1957, every - 1, *sorted(random.Random(73).sample(range(every), 40))]
        rules = [at_once(nth, names, GREAT, number) for number in sorted(numbers)]
        keys = [(front(rule), bounds(rule)) for rule in rules]
        self.assertEqual(keys, sorted(keys))
        self.assertEqual([at_once(number_of, rule) for rule in rules], sorted(numbers))
        for rule in rules:
            self.assertEqual((*sorted((*front(rule), *gone(rule))),), names)
            self.assertEqual(bounds(rule)[-1][1], GREAT)
            self.assertTrue(is_plain(rule.text))

    def test_six_names_many_times(self):
        # A generous bound: less than a tenth of it is needed, and with lists of all rules far more.
        rule = Rule.of("forget f; cap 4; forget a; forget b; forget c; forget d; forget e; cap 3; touch b")
        numbers = [12000 * turn for turn in range(300)]
        rules = within_seconds(1, lambda: [nth(NAMES, 3, number) for number in numbers])
        self.assertEqual([number_of(own) for own in rules], numbers)
        found = within_seconds(1, lambda: [number_of(rule) for _ in range(300)])
        self.assertEqual(found, found[:1] * 300)
        self.assertIs(nth(NAMES, 3, found[0]) == rule, True)

    def test_four_and_five_names(self):
        for many, step in [(4, 7), (5, 997)]:
            names, every = NAMES[:many], how_many(many)
            rules = [nth(names, 3, number) for number in range(0, every, step)]
            keys = [(front(rule), bounds(rule)) for rule in rules]
            self.assertEqual(keys, sorted(keys))
            self.assertEqual([number_of(rule) for rule in rules], list(range(0, every, step)))
        found = sorted(bound_lists(NAMES[:4], 2))
        self.assertEqual([bounds(nth(NAMES[:4], 2, number)) for number in range(len(found))], found)

    def test_rules_that_are_not_plain(self):
        self.assertEqual(number_of(Rule.of("touch a; cap 3; touch a")), number_of(Rule.of("forget a; cap 2; touch a")))
        self.assertEqual(number_of(Rule.of(f"cap {GREAT}; cap {GREAT}")), 0)

    def test_nothing_named(self):
        self.assertEqual(nth((), 5, 0).text, "cap 5")
        self.assertEqual(number_of(Rule.of("cap 5")), 0)

    def test_no_number(self):
        for names in [(), ("a",), ("a", "b"), NAMES]:
            every = how_many(len(names))
            self.assertEqual(number_of(nth(names, 1, every - 1)), every - 1)
            for number in [-1, -every, every, every + 1, GREAT, -GREAT]:
                with self.subTest(number), self.assertRaises(NoNumber) as caught:
                    at_once(nth, names, 1, number)
                self.assertEqual(vars(caught.exception), {"number": number})


class Between(unittest.TestCase):

    def found(self, p, q, top):
        """The bounds of all between, in their order, by trying all."""
        named = tuple(sorted((*front(p), *gone(p))))
        found = [
            own for own in lists_below(named, top)
            if p.within(rule_of((front(p), gone(p), own))) and rule_of((front(p), gone(p), own)).within(q)
        ]
        return sorted(found, key=lambda own: (height(rule_of((front(p), gone(p), own))), own))

    def told(self, p, q, top):
        found = self.found(p, q, top)
        self.assertEqual(many_between(p, q), len(found), (p.text, q.text))
        for number, own in enumerate(found):
            rule = nth_between(p, q, number)
            self.assertEqual(form_of(rule), (front(p), gone(p), own))
            self.assertEqual(rule.text, plain_text(*form_of(rule)))
            self.assertEqual(rank_between(p, q, rule), number)
        for number in (-1, len(found), GREAT):
            with self.assertRaises(NoNumber) as caught:
                nth_between(p, q, number)
            self.assertEqual(vars(caught.exception), {"number": number})
        return len(found)

    def test_from_outside(self):
        names, row, lost = ("a", "b"), ("b",), ("a",)
        rows = rows_up_to_strangers(names, ("u", "v", "w", "x", "y"))
        every = {plain_text(row, lost, own): own for own in lists_below(names, 4)}
        seen = {text: Seen(text, rows) for text in every}
        for one, other in product(every, repeat=2):
            between = [text for text in every if seen[one].within(seen[text]) and seen[text].within(seen[other])]
            self.assertEqual(many_between(Rule.of(one), Rule.of(other)), len(between))
            heights = {
                text: sum(reach(every[text], own) for own in self.ordered(every[text], names)) for text in between
            }
            in_order = sorted(between, key=lambda text: (heights[text], every[text]))
            told = [nth_between(Rule.of(one), Rule.of(other), number).text for number in range(len(between))]
            self.assertEqual(told, in_order, (one, other))

    def ordered(self, chain, names):
        """All beginnings of an order of the NAMEs that comes by all sets of the chain."""
        order = [name for own, _ in (*chain, (names, 1)) for name in own]
        order = list(dict.fromkeys(order))
        return [tuple(order[:many]) for many in range(len(order) + 1)]

    def test_one_and_two_names(self):
        for names, row in [((), ()), (("a",), ()), (("a",), ("a",)), (("a", "b"), ("b", "a"))]:
            lost = tuple(name for name in names if name not in row)
            rules = [rule_of((row, lost, own)) for own in lists_below(names, 4)]
            for p, q in product(rules, repeat=2):
                self.told(p, q, 4)

    def test_three_names(self):
        rules = [rule_of((("c", "a"), ("b",), own)) for own in lists_below(("a", "b", "c"), 5)]
        chance = random.Random(79)
        several = 0
        for _ in range(60):
            several += self.told(chance.choice(rules), chance.choice(rules), 5) > 3
        self.assertGreater(several, 5)

    def test_four_names_and_bounds_to_twelve(self):
        low = Rule.of("cap 1; forget c; forget b; touch a; touch d")
        high = Rule.of("forget a; forget b; forget c; forget d; cap 12; touch a; touch d")
        self.assertEqual(at_once(many_between, low, high), 65 * 12)
        numbers = [0, 1, 2, 17, 300, 301, 500, 778, 779]
        rules = [at_once(nth_between, low, high, number) for number in numbers]
        self.assertEqual([at_once(rank_between, low, high, rule) for rule in rules], numbers)
        self.assertEqual([rules[0].text, rules[-1].text], [plain(low).text, plain(high).text])
        keys = [(height(rule), bounds(rule)) for rule in rules]
        self.assertEqual(keys, sorted(keys))
        with self.assertRaises(NoNumber):
            nth_between(low, high, 780)

    def test_fronts_in_another_order(self):
        p, q = Rule.of("cap 1; touch a; touch b"), Rule.of("cap 2; touch b; touch a")
        third = Rule.of("cap 2; touch b; touch a")
        self.assertEqual(nth_between(p, q, many_between(p, q) - 1).text, "cap 2; touch a; touch b")
        self.assertEqual(rank_between(p, q, third), many_between(p, q) - 1)
        self.assertEqual(rank_between(q, q, Rule.of("cap 2; touch a; touch b")), 0)

    def test_not_within(self):
        for p, q in [("cap 3", "cap 2"), ("touch b; cap 3; touch a", "touch a; cap 3; touch b; touch a")]:
            one, other = Rule.of(p), Rule.of(q)
            self.assertEqual(many_between(one, other), 0)
            with self.assertRaises(NoNumber) as caught:
                nth_between(one, other, 0)
            self.assertEqual(vars(caught.exception), {"number": 0})
            with self.assertRaises(NotBetween) as strange:
                rank_between(one, other, one)
            self.assertEqual(vars(strange.exception), {"strange": p})

    def test_not_between(self):
        low, high = Rule.of("cap 2; touch a"), Rule.of("cap 4; touch a")
        for text in [
            "cap 5; touch a", "cap 1; touch a", "forget a; cap 1; touch a", "touch a; cap 6", "cap 6; cap 5; touch a",
        ]:
            with self.subTest(text), self.assertRaises(NotBetween) as caught:
                rank_between(low, high, Rule.of(text))
            # The text of the Rule as it was handed in, whether it is plain or not.
            self.assertEqual(vars(caught.exception), {"strange": text})
        self.assertEqual(rank_between(low, high, Rule.of("touch a; cap 4")), 3)

    def test_other_names(self):
        one, two, three = Rule.of("cap 3; touch a"), Rule.of("cap 2; forget a"), Rule.of("cap 4; touch a; touch b")
        last = Rule.of("cap 4; touch c; forget d")
        cases = [
            (one, two, "a"), (one, three, "b"), (two, three, "a"), (three, last, "a"), (Rule.of("cap 1"), last, "c"),
            (Rule.of("cap 3; touch c; forget b"), Rule.of("cap 4; touch d; forget e"), "b"),
        ]
        for p, q, name in cases:
            for call in (many_between, lambda p, q: nth_between(p, q, -1), lambda p, q: rank_between(p, q, last)):
                for low, high in [(p, q), (q, p)]:
                    with self.assertRaises(OtherNames) as caught:
                        call(low, high)
                    self.assertEqual(vars(caught.exception), {"name": name})
        for third, name in [(two, "a"), (three, "b"), (last, "a")]:
            for low, high in [(one, one), (one, Rule.of("cap 1; touch a"))]:
                with self.assertRaises(OtherNames) as caught:
                    rank_between(low, high, third)
                self.assertEqual(vars(caught.exception), {"name": name})
