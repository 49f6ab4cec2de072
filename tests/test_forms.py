"""Point 6: what a rule does to all rows, told as a FORM."""

import random
import re
import unittest
from itertools import permutations, product

from tests.outside import Seen, all_rows, is_plain, made, rows_up_to_strangers, texts_to
from tests.small import (
    bound_follows, bound_lists, constant_text, fronts_within, none_follows, plain_text, rows_of_sets, sets_of,
    small_forms, small_texts,
)
from tests.things import nested, other_things
from touchcaps.errors import Apart
from touchcaps.forms import (
    bounds, by_form, constant, follows, form_of, front, gone, is_form, plain, rule_of, tight,
)
from touchcaps.rules import Rule
from touchcaps.steps import Step

SMALL = ["touch a", "touch b", "forget a", "forget b", "cap 1", "cap 2", "cap 3"]
NOTHING = (((), 0),)
GREAT = 10 ** 40
# Good FORMs, and what is none though only one place of it is bent.
GOOD = [
    ((), (), ()), (("a",), (), ()), ((), ("a", "b"), ()), (("b", "a"), ("c",), ((("a", "b"), 1),)), ((), (), NOTHING),
    (("b", "a"), (), NOTHING), (("a", "b"), (), (((), 3), (("a", "b"), 2))), ((), ("a",), (((), 1),)),
    (("c",), ("a", "b"), (((), GREAT), (("a", "b", "c"), GREAT - 2))),
    ((), ("a", "b", "c"), ((("b",), 2), (("a", "b", "c"), 1))),
]
BENT = [
    [(), (), ()], ((), ()), ((), (), (), ()), (), ([], (), ()), ((), [], ()), ((), (), []), ("", (), ()), ((), "", ()),
    ((), (), ""), (None, (), ()), ((), None, ()), ((), (), None), ((), (), 0), (("a", "a"), (), ()), (("A",), (), ()),
    ((1,), (), ()), ((), ("b", "a"), ()), ((), ("a", "a"), ()), ((), ("B",), ()), ((), (1,), ()), ("a", (), ()),
    ((), "a", ()), (("a",), ("a",), ()), (("a", "b"), ("b", "c"), ()), ((), ("a",), NOTHING), ((), (), (((), False),)),
    ((), (), ([(), 0],)), ((), (), (([], 0),)), ((), (), [((), 0)]), ((), (), (((), 0), ((), 0))), ((), (), ((), 0)),
    ((), ("a",), ((("a",), 0),)), (("a",), (), ((("a",), 0),)), ((), (), (((), -1),)), ((), (), (((), True),)),
    ((), (), (((), "1"),)), ((), (), (((), None),)), ((), (), (((), 1, 1),)), ((), (), (((),),)), ((), (), ((1, ()),)),
    ((), (), ((("a",), 1),)), (("b",), (), ((("a",), 1),)), ((), ("a", "b"), ((("b", "a"), 1),)),
    ((), ("a", "b"), ((["a"], 1),)), ((), ("a", "b"), ([("a",), 1],)), ((), ("a", "b"), [(("a",), 1)]),
    ((), ("a", "b"), ((("a", "a"), 1),)), (["b", "a"], ("c",), ((("a", "b"), 1),)),
    (("b", "a"), ["c"], ((("a", "b"), 1),)),
    ((), ("a",), (((), 3), (("a",), 2))), ((), ("a", "b"), (((), 3), (("a", "b"), 1))),
    ((), ("a", "b"), (((), 3), (("a", "b"), 3))), ((), ("a", "b"), (((), 2), (("a", "b"), 3))),
    ((), ("a", "b"), ((("a", "b"), 2), ((), 3))), ((), ("a", "b"), (((), 3), ((), 2))),
    ((), ("a", "b"), (((), 3), ((), 3))),
    ((), ("a", "b", "c", "d"), ((("a",), 3), (("b", "c", "d"), 2))), ((), ("a", "b"), (((), 1), (("a", "b"), 0))),
    ((), ("a", "b"), (((), 3), (("a", "b"), True))), ((), ("a", "b"), (((), 3), (("a", "c"), 2))),
    ((), ("a", "b", "c"), (((), 3), (("a", "b"), 2), (("a", "b", "c"), 1))),
]


def named_text(text):
    return {part.split(" ")[1] for part in text.split("; ") if part != "-" and not part.startswith("cap")}


def cap_bounds(text):
    """The BOUND of each cap step, as the guarantee of the document tells it."""
    found, named, kept = [], set(), set()
    for part in text.split("; ") if text != "-" else []:
        kind, what = part.split(" ")
        if kind == "cap":
            found.append((tuple(sorted(named)), int(what) - len(kept)))
        else:
            named.add(what)
            (kept.add if kind == "touch" else kept.discard)(what)
    return found


def tight_slowly(given):
    """Those that follow from no other one, by trying all."""
    unlike = sorted(set(given), key=lambda bound: len(bound[0]))
    return tuple(one for one in unlike if not any(one != other and bound_follows(one, other) for other in unlike))


def is_set_slowly(thing):
    if type(thing) is not tuple or not all(type(name) is str and re.fullmatch("[a-z]+", name) for name in thing):
        return False
    return list(thing) == sorted(set(thing))


def is_form_slowly(thing):
    """The words of the document, one behind another."""
    if type(thing) is not tuple or len(thing) != 3 or any(type(part) is not tuple for part in thing):
        return False
    row, lost, found = thing
    if not all(type(name) is str and re.fullmatch("[a-z]+", name) for name in row) or not is_set_slowly(lost):
        return False
    if len(set(row)) < len(row) or set(row) & set(lost):
        return False
    if not all(type(own) is tuple and len(own) == 2 and is_set_slowly(own[0]) and type(own[1]) is int for own in found):
        return False
    if found == NOTHING:
        return lost == ()
    if not all(set(names) <= {*row, *lost} and number > 0 for names, number in found):
        return False
    return all(set(one) < set(other) for (one, _), (other, _) in zip(found, found[1:])) and none_follows(found)


def keeps(row, place, bound):
    return len([name for name in row[:place + 1] if name not in bound[0]]) <= bound[1]


class Told(unittest.TestCase):

    def test_all_rules_of_three_steps(self):
        rows = rows_up_to_strangers(("a", "b"), ("v", "w", "x", "y"))
        for text in texts_to(3, SMALL):
            self.told(text, rows)

    def test_longer_rules(self):
        rows = rows_up_to_strangers(("a", "b", "c"), ("v", "w", "x", "y", "z"))
        parts = [f"{kind} {name}" for kind in ("touch", "touch", "forget") for name in "abc"]
        parts.extend(f"cap {number}" for number in (2, 3, 3, 4, 4, 5))
        chance = random.Random(7)
        for _ in range(150):
            self.told("; ".join(chance.choices(parts, k=chance.randint(4, 10))), rows)

    def told(self, text, rows):
        rule, found = Rule.of(text), cap_bounds(text)
        results = [made(text, row) for row in rows]
        self.assertEqual(front(rule), made(text, ()), text)
        if len(set(results)) == 1:
            self.assertEqual((constant(rule), gone(rule), bounds(rule)), (results[0], (), NOTHING), text)
            self.assertLess(min(number for _, number in found), 1)
        else:
            self.assertIsNone(constant(rule), text)
            self.assertEqual(gone(rule), tuple(sorted(named_text(text) - set(front(rule)))), text)
            self.assertEqual(bounds(rule), tight_slowly(found), text)
            self.assertGreaterEqual(min([1, *[number for _, number in found]]), 1)
        form = form_of(rule)
        self.assertEqual(form, (front(rule), gone(rule), bounds(rule)))
        self.assertIs(is_form(form), True, text)
        self.assertEqual([by_form(form, row) for row in rows], results, text)
        self.back(rule, form)

    def back(self, rule, form):
        again = rule_of(form)
        self.assertTrue(is_plain(again.text), again.text)
        self.assertEqual(plain(rule).text, again.text)
        self.assertEqual(form_of(again), form)
        self.assertIs(again == rule, True)
        expected = constant_text(form[0]) if form[2] == NOTHING else plain_text(*form)
        self.assertEqual(again.text, expected)

    def test_equal_forms_and_equal_rules(self):
        rows = rows_up_to_strangers(("a", "b"), ("v", "w", "x", "y"))
        texts = [*texts_to(2, SMALL), *random.Random(11).sample(texts_to(3, SMALL), 80)]
        seen = {text: Seen(text, rows) for text in texts}
        forms = {text: form_of(Rule.of(text)) for text in texts}
        for one in texts:
            for other in texts:
                if (forms[one] == forms[other]) is not seen[one].alike(seen[other]):
                    self.fail(f"FORMs of {one!r} and {other!r}")

    def test_each_form_is_that_of_a_rule(self):
        for form in small_forms(("a", "b", "c"), 3):
            self.assertEqual(form_of(Rule.of(plain_text(*form))), form)
            self.assertEqual(rule_of(form).text, plain_text(*form))
            self.assertIs(is_form(form), True)
        for row in fronts_within(("a", "b", "c")):
            self.assertEqual(form_of(Rule.of(constant_text(row))), (row, (), NOTHING))
            self.assertEqual(rule_of((row, (), NOTHING)).text, constant_text(row))


class Edges(unittest.TestCase):

    def test_the_rule_without_steps(self):
        self.assertEqual(form_of(Rule()), ((), (), ()))
        self.assertIsNone(constant(Rule()))
        self.assertEqual((plain(Rule()).text, rule_of(((), (), ())).text), ("-", "-"))
        self.assertEqual(by_form(((), (), ()), ("x", "a")), ("x", "a"))

    def test_constant_rules(self):
        nothing = Rule.of("touch z; cap 1; forget z; touch y; forget y")
        self.assertEqual((constant(nothing), front(nothing), gone(nothing), bounds(nothing)), ((), (), (), NOTHING))
        self.assertEqual(form_of(nothing), ((), (), NOTHING))
        self.assertEqual(plain(nothing).text, "touch a; cap 1; forget a")
        still = Rule.of("forget d; touch c; touch b; cap 1; forget x; touch a")
        self.assertEqual(form_of(still), (("a", "b"), (), NOTHING))
        self.assertEqual(plain(still).text, "touch b; touch a; cap 2")
        self.assertEqual(by_form((("a", "b"), (), NOTHING), ("b", "x", "a")), ("a", "b"))
        self.assertEqual(by_form(((), (), NOTHING), ("b", "x")), ())
        self.assertEqual(rule_of((("a", "b"), (), NOTHING))(("x", "b")), ("a", "b"))

    def test_rules_without_bounds(self):
        rule = Rule.of("touch b; forget c; touch a; forget d")
        self.assertEqual(form_of(rule), (("a", "b"), ("c", "d"), ()))
        self.assertEqual(plain(rule).text, "forget c; forget d; touch b; touch a")
        self.assertEqual(by_form(form_of(rule), ("d", "x", "b", "y", "c")), ("a", "b", "x", "y"))

    def test_a_bound_with_all_that_is_named(self):
        rule = Rule.of("touch b; forget c; touch a; cap 4")
        self.assertEqual(form_of(rule), (("a", "b"), ("c",), ((("a", "b", "c"), 2),)))
        self.assertEqual(plain(rule).text, "forget a; forget b; forget c; cap 2; touch b; touch a")
        self.assertEqual(by_form(form_of(rule), ("c", "x", "b", "y", "z")), ("a", "b", "x", "y"))

    def test_great_arguments(self):
        names = [first + second for first in "abcdefgh" for second in "klmno"]
        parts = []
        for place in range(60):
            cap = f"cap {GREAT - 1 - place}"
            parts.append(cap if place % 3 == 2 else f"{['touch', 'forget'][place % 2]} {names[place - place // 3]}")
        text = "; ".join(parts)
        rule = Rule.of(text)
        row = tuple("x" * (place // 26) + chr(97 + place % 26) for place in range(260)) + tuple(names)
        self.assertEqual((len(rule), len(row), len(set(row)), len(named_text(text))), (60, 300, 300, 40))
        self.assertEqual(bounds(rule), tight_slowly(cap_bounds(text)))
        self.assertEqual(gone(rule), tuple(sorted(named_text(text) - set(front(rule)))))
        self.assertEqual(by_form(form_of(rule), row), rule(row))
        self.assertIs(is_form(form_of(rule)), True)
        self.assertEqual(form_of(plain(rule)), form_of(rule))

    def test_many_bounds_in_long_rows(self):
        letters = "abcdefghijklmnopqrs"
        parts = [f"forget {name}{name}; touch {name}; cap {200 - at}" for at, name in enumerate(letters)]
        text = "; ".join(["cap 200", *parts])
        rule = Rule.of(text)
        row = tuple("x" * (place // 26) + chr(97 + place % 26) for place in range(300))
        self.assertEqual(bounds(rule), tight_slowly(cap_bounds(text)))
        self.assertGreater(len(bounds(rule)), 1)
        for many in range(0, 301, 7):
            self.assertEqual(by_form(form_of(rule), row[many:]), rule(row[many:]))


class Bounds(unittest.TestCase):

    def test_follows_from_outside(self):
        # Each NAME of each ROW that keeps the other one, and is in neither set, keeps the first one.
        rows = [row for row in all_rows(("a", "b", "x", "y", "z")) if row]
        found = [(names, number) for names in sets_of(("a", "b")) for number in (1, 2)]
        for one, other in product(found, repeat=2):
            kept = [
                keeps(row, len(row) - 1, one) for row in rows
                if row[-1] not in one[0] and row[-1] not in other[0] and keeps(row, len(row) - 1, other)
            ]
            self.assertIs(follows(one, other), all(kept), (one, other))

    def test_follows_for_sets_of_all_kinds(self):
        found = [(names, number) for names in sets_of(("a", "b", "c")) for number in (1, 2, 3, GREAT)]
        for one, other in product(found, repeat=2):
            self.assertIs(follows(one, other), bound_follows(one, other))
        self.assertIs(follows(((), GREAT), (("a", "b"), GREAT - 2)), True)
        self.assertIs(follows(((), GREAT), (("a", "b"), GREAT - 1)), False)

    def test_tight_bounds_in_any_order(self):
        chance = random.Random(13)
        for row in rows_of_sets(("a", "b", "c")):
            for _ in range(12):
                given = [(chance.choice(row), chance.randint(1, 4)) for _ in range(chance.randint(1, 6))]
                self.assertEqual(tight(tuple(given)), tight_slowly(given), given)

    def test_all_orders_and_equal_ones(self):
        given = (((), 4), (("a", "b"), 3), (("a", "b"), 3), (("a", "b", "c", "d"), 2), (("a",), 4))
        for order in permutations(given):
            self.assertEqual(tight(order), (((), 4), (("a", "b"), 3), (("a", "b", "c", "d"), 2)))
        self.assertEqual(tight(()), ())
        self.assertEqual(tight((((), 1),)), (((), 1),))
        given = ((("b", "q"), GREAT), ((), GREAT), (("b", "q"), GREAT - 1))
        self.assertEqual(tight(given), (((), GREAT), (("b", "q"), GREAT - 1)))

    def test_tight_ones_stay(self):
        for found in bound_lists(("a", "b", "c"), 2):
            self.assertEqual(tight(found), found)
            self.assertEqual(tight(found[::-1]), found)
            self.assertTrue(none_follows(tight(found)))

    def test_sets_apart(self):
        every = sets_of(("a", "b", "c"))
        chance = random.Random(17)
        for _ in range(400):
            given = tuple((chance.choice(every), chance.randint(1, 4)) for _ in range(chance.randint(2, 6)))
            sets = sorted({names for names, _ in given})
            pairs = [
                (one, other) for one in sets for other in sets
                if one < other and not set(one) <= set(other) and not set(other) <= set(one)
            ]
            if not pairs:
                self.assertEqual(tight(given), tight_slowly(given))
                continue
            with self.assertRaises(Apart) as caught:
                tight(given)
            self.assertEqual(vars(caught.exception), dict(zip(("one", "other"), min(pairs))), given)

    def test_the_least_two_sets_apart(self):
        cases = [
            ([("b",), ("a",)], ("a",), ("b",)), ([("a", "c"), ("a", "b")], ("a", "b"), ("a", "c")),
            ([("c",), ("a", "b"), ("a",)], ("a",), ("c",)), ([("z",), ("a", "b", "c")], ("a", "b", "c"), ("z",)),
            ([("a",), ("a", "b"), ("a", "c"), ("b",)], ("a",), ("b",)),
            ([(), ("b", "c"), ("b",), ("c",)], ("b",), ("c",)),
            ([("b",), ("a", "b"), ("a", "c")], ("a", "b"), ("a", "c")),
        ]
        for sets, one, other in cases:
            # Even those that follow from another one count.
            for numbers in (range(1, 9), [GREAT] * 9, range(9, 1, -1)):
                with self.assertRaises(Apart) as caught:
                    tight(tuple(zip(sets, numbers)))
                self.assertEqual(vars(caught.exception), {"one": one, "other": other})

    def test_errors_keep_tuples(self):
        with self.assertRaises(Apart) as caught:
            tight([[["b"], 1], [["a"], 2]])
        self.assertEqual(vars(caught.exception), {"one": ("a",), "other": ("b",)})


class Things(unittest.TestCase):

    def test_good_ones(self):
        for form in GOOD:
            self.assertIs(is_form(form), True, form)

    def test_bent_ones(self):
        for thing in BENT:
            self.assertIs(is_form(thing), False, thing)

    def test_each_place_of_a_form_may_be_bent(self):
        strange = [None, True, False, 0, -1, "", "A", "a", (), [], Rule(), Step("touch", "a"), ("a", 1), ["a"], ((),)]
        found = [bent for form in GOOD for bent in self.bent(form, strange)]
        for thing in found:
            self.assertIs(is_form(thing), is_form_slowly(thing), thing)
        self.assertGreater(len([thing for thing in found if not is_form_slowly(thing)]), 1000)
        self.assertGreater(len([thing for thing in found if is_form_slowly(thing)]), 10)

    def bent(self, value, strange):
        if isinstance(value, tuple):
            for place, part in enumerate(value):
                for other in self.bent(part, strange):
                    yield (*value[:place], other, *value[place + 1:])
                yield (*value[:place], *value[place + 1:])
            yield list(value)
        yield from (other for other in strange if other is not value)

    def test_all_triples_of_small_parts(self):
        # Just those that are the FORM of a small rule are FORMs.
        known = {form_of(Rule.of(text)) for text in small_texts(("a", "b"), 3)}
        pairs = [(names, number) for names in sets_of(("a", "b")) for number in range(4)]
        longest = random.Random(1).sample([*product(pairs, repeat=3)], 300)
        chains = [(), *product(pairs), *product(pairs, repeat=2), *longest]
        fronts = [*fronts_within(("a", "b")), ("a", "a")]
        for thing in product(fronts, [*sets_of(("a", "b")), ("b", "a")], chains):
            if is_form(thing) is not (thing in known):
                self.fail(thing)

    def test_things_of_all_kinds(self):
        for thing in other_things():
            self.assertIs(is_form(thing), False)
            bent = [(thing, (), ()), ((), thing, ()), ((), (), thing), ((), (), (thing,)), ((), (), ((thing, 1),))]
            bent.append(((), (), (((), thing),)))
            for form in bent:
                self.assertIs(is_form(form), is_form_slowly(form), form)
        for depth in range(13):
            self.assertIs(is_form(nested((), depth, tuple)), False)
            self.assertIs(is_form(nested(((), (), ()), depth, tuple)), depth == 0)
            self.assertIs(is_form(nested(((), (), ()), depth, list)), depth == 0)

    def test_beyond_the_bounds(self):
        many = tuple(sorted("q" * (place // 26 + 1) + chr(97 + place % 26) for place in range(400)))
        self.assertIs(is_form((many, (), ())), True)
        self.assertIs(is_form(((), many, ((many, 10 ** 60),))), True)
        self.assertIs(is_form((many, many[:1], ())), False)
        self.assertIs(is_form(((), many[::-1], ())), False)
        self.assertIs(is_form((("a" * 50,), (), ((("a" * 50,), 10 ** 50),))), True)
