"""Point 7: the order of Rules, beside all small Rules and what these make of all rows of a few NAMEs."""

import random
import unittest
from itertools import permutations, product

from tests.moments import at_once, within_seconds
from tests.outside import Seen, all_rows, is_plain, made, rows_up_to_strangers
from tests.small import bound_lists, lists_below, plain_text, reach as least_number, sets_of, small_texts
from touchcaps.errors import OtherNames
from touchcaps.forms import form_of, front, gone, plain, rule_of
from touchcaps.order import (
    above, below, climb, compare, greatest_within, height, least_around, outside_row, parting_row, reach,
)
from touchcaps.rules import Rule

GREAT = 10 ** 40
NOTHING = "touch a; cap 1; forget a"


def texts(rules):
    return sorted(rule.text for rule in rules)


class World:
    """All bounded Rules with one front, with the same NAMEs gone, up to some height; their order seen from outside."""

    def __init__(self, names, row, top):
        lost = tuple(sorted(set(names) - set(row)))
        self.bounds = {plain_text(row, lost, bounds): bounds for bounds in lists_below(names, top)}
        self.texts = sorted(self.bounds)
        self.rules = {text: Rule.of(text) for text in self.texts}
        rows = rows_up_to_strangers(names, tuple("mnopqrstuvwxyz"[:top + 1]))
        seen = {text: Seen(text, rows) for text in self.texts}
        self.around = {one: {other for other in self.texts if seen[one].within(seen[other])} for one in self.texts}
        self.within = {one: {other for other in self.texts if one in self.around[other]} for one in self.texts}
        self.above = {one: {other for other in self.around[one] if self.next_to(one, other)} for one in self.texts}
        self.heights = self.levels()
        # Those of which all that is just above is in this world, too.
        self.inner = [text for text in self.texts if least_number(self.bounds[text], ()) < top]

    def next_to(self, one, other):
        return one != other and self.around[one] & self.within[other] == {one, other}

    def levels(self):
        lowest, = [text for text in self.texts if self.around[text] == set(self.texts)]
        levels = {lowest: 0}
        newest = [lowest]
        while newest:
            for text in newest:
                levels.update({other: levels[text] + 1 for other in self.above[text]})
            newest = [other for text in newest for other in self.above[text]]
            newest = sorted(set(newest))
        return levels


WORLDS = [
    World((), (), 6), World(("a",), (), 5), World(("a",), ("a",), 5), World(("a", "b"), ("b", "a"), 5),
    World(("a", "b"), ("b",), 4), World(("a", "b", "c"), ("c", "a"), 4), World(("a", "b", "c"), (), 5),
]


class Compared(unittest.TestCase):

    def test_all_small_rules(self):
        rows = rows_up_to_strangers(("a", "b"), ("v", "w", "x", "y"))
        found = [
            *small_texts(("a", "b"), 3), "touch a; cap 2; touch a", "cap 2; touch b; forget b; cap 3",
            "touch b; touch a; cap 1",
        ]
        seen = {text: Seen(text, rows) for text in found}
        rules = {text: Rule.of(text) for text in found}
        for one, other in product(found, repeat=2):
            below, over = seen[one].within(seen[other]), seen[other].within(seen[one])
            expected = {(True, False): "within", (False, True): "around", (False, False): "neither"}.get((below, over))
            if expected is None:
                expected = "alike" if seen[one].alike(seen[other]) else "shuffled"
            if compare(rules[one], rules[other]) != expected:
                self.fail((one, other, expected))

    def test_constant_rules(self):
        one, other, nothing = Rule.of("touch a; touch b; cap 2"), Rule.of("touch b; touch a; cap 2"), Rule.of(NOTHING)
        self.assertEqual(compare(one, other), "shuffled")
        self.assertEqual(compare(one, Rule.of("cap 9; touch a; touch b; cap 2")), "alike")
        self.assertEqual(compare(nothing, one), "within")
        self.assertEqual(compare(one, Rule.of("forget a; forget b; cap 1; touch b; touch a")), "within")
        self.assertEqual(compare(Rule(), one), "neither")
        self.assertEqual(compare(Rule(), nothing), "around")

    def test_great_numbers(self):
        self.assertEqual(compare(Rule.of(f"cap {GREAT}"), Rule.of(f"cap {GREAT - 1}")), "around")
        self.assertEqual(compare(Rule.of(f"touch a; cap {GREAT}"), Rule.of(f"cap {GREAT}; touch a")), "within")


class Reached(unittest.TestCase):

    def most(self, text, rows, names):
        """The greatest number of NAMEs up to a shown one that are none of these, over the rows."""
        counts = [0]
        for row in rows:
            for name in made(text, row):
                if name not in made(text, ()) and name not in names:
                    counts.append(len([own for own in row[:row.index(name) + 1] if own not in names]))
        return max(counts)

    def test_from_outside(self):
        rows = rows_up_to_strangers(("a", "b"), ("v", "w", "x", "y", "z"))
        for text in small_texts(("a", "b"), 2):
            rule = Rule.of(text)
            for names in [*sets_of(("a", "b")), ("a", "c")]:
                if form_of(rule)[2] == ():
                    self.assertIsNone(reach(rule, names))
                    self.assertGreaterEqual(self.most(text, rows, names), 5)
                else:
                    self.assertEqual(reach(rule, names), self.most(text, rows, names), (text, names))

    def test_any_names(self):
        rows = all_rows(("a", "v", "w", "x", "y"))
        for text in ["cap 2", "cap 2; touch a", "touch a; cap 3", "forget a; cap 1", "touch a; cap 1"]:
            for names in [("v",), ("a", "v"), ("v", "w"), ("a", "q"), ("q",)]:
                self.assertEqual(reach(Rule.of(text), names), self.most(text, rows, names), (text, names))

    def test_none_and_zero(self):
        for names in [(), ("a",), tuple("abcdefgh")]:
            self.assertIsNone(reach(Rule(), names))
            self.assertIsNone(reach(Rule.of("touch a; forget b"), names))
            self.assertEqual(reach(Rule.of(NOTHING), names), 0)
            self.assertEqual(reach(Rule.of("touch b; touch a; cap 2"), names), 0)

    def test_sixty_names(self):
        many = tuple(sorted(first + second for first in "abcdef" for second in "ghijklmnop"))
        self.assertEqual(len(many), 60)
        rule = Rule.of("; ".join([*[f"forget {name}" for name in many[:50]], f"cap {GREAT}", "cap 9"]))
        self.assertEqual((reach(rule, many), reach(rule, ()), reach(rule, many[25:])), (9, 59, 34))
        rule = Rule.of(f"cap {GREAT}; forget a; forget b; cap {GREAT - 1}")
        self.assertEqual([reach(rule, names) for names in [(), ("a",), ("a", "b")]], [GREAT, GREAT, GREAT - 1])

    def test_within_and_reach(self):
        # Of Rules that are alike in names, fronts in any order.
        for world in WORLDS:
            everywhere = sets_of(sorted({name for bounds in world.bounds.values() for name in bounds[-1][0]}))
            for one, other in product(world.texts, repeat=2):
                less = all(reach(world.rules[one], names) <= reach(world.rules[other], names) for names in everywhere)
                self.assertIs(less, other in world.around[one], (one, other))


class Parted(unittest.TestCase):

    def parted(self, one, other):
        p, q = Rule.of(one), Rule.of(other)
        row = outside_row(p, q)
        self.assertIs(row is None, p.within(q), (one, other))
        if row is not None:
            self.is_row(row)
            self.assertTrue(set(made(one, row)) - set(made(other, row)), (one, other, row))
        row = parting_row(p, q)
        self.assertIs(row is None, p == q, (one, other))
        if row is not None:
            self.is_row(row)
            self.assertNotEqual(made(one, row), made(other, row), (one, other, row))

    def is_row(self, row):
        self.assertIs(type(row), tuple)
        self.assertEqual(len(set(row)), len(row))
        self.assertTrue(all(name.isascii() and name.isalpha() and name.islower() for name in row))

    def test_all_small_rules(self):
        for one, other in product(small_texts(("a", "b"), 3), repeat=2):
            self.parted(one, other)

    def test_rules_of_three_and_four_names(self):
        found = [
            plain_text(row, lost, bounds)
            for row, lost in [(("a", "b"), ("c",)), ((), ("a", "b", "c", "d"))]
            for bounds in lists_below((*row, *lost), 5)
        ]
        chance = random.Random(19)
        for one in chance.sample(found, 60):
            for other in chance.sample(found, 60):
                self.parted(one, other)

    def test_numbers_to_a_hundred(self):
        ends = "; ".join(f"forget {name}" for name in "abcdefghijklmnopqrstuvwxyz")
        found = [
            "cap 100", "cap 99", f"{ends}; cap 100", f"{ends}; cap 99", f"cap 100; {ends}", f"cap 100; {ends}; cap 80",
            f"cap 100; {ends}; cap 75", f"{ends}; cap 74", f"{ends}", "-", "touch zz; cap 100", "cap 100; touch zz",
            "cap 60; touch aa; forget bb; cap 60", NOTHING, "touch zz; cap 1",
        ]
        for one, other in product(found, repeat=2):
            self.parted(one, other)
        self.assertIsNone(outside_row(Rule.of("cap 100"), Rule.of(f"cap {GREAT}")))
        self.assertEqual(len(outside_row(Rule.of(f"cap {GREAT}"), Rule.of("cap 100"))), 101)

    def test_rows_that_are_shown(self):
        row = outside_row(Rule.of("cap 100"), Rule.of("cap 99"))
        self.assertEqual((len(row), len(set(row))), (100, 100))
        self.assertEqual(outside_row(Rule.of("touch a"), Rule()), ())
        self.assertEqual(parting_row(Rule.of("touch a; touch b"), Rule.of("touch b; touch a")), ())


class Steps(unittest.TestCase):

    def test_worlds_have_what_the_document_says(self):
        for world in WORLDS:
            # Each row of steps up from one to another one has as many.
            for text in world.texts:
                heights = {world.heights[other] for other in world.above[text]}
                self.assertLessEqual(heights, {world.heights[text] + 1})

    def test_heights(self):
        for world in WORLDS:
            for text in world.texts:
                self.assertEqual(height(world.rules[text]), world.heights[text], text)

    def test_heights_by_the_beginnings_of_an_order(self):
        found = {
            "forget d; touch b; cap 9; forget a; cap 7; forget c": "bdac",
            "cap 5; forget c; forget a; touch b; cap 4": "abc",
            f"touch e; forget b; cap {GREAT}; forget d; touch c; forget a; cap {GREAT - 5}; cap {GREAT - 2}": "beadc",
        }
        for text, order in found.items():
            rule = Rule.of(text)
            numbers = [reach(rule, tuple(sorted(order[:many]))) - 1 for many in range(len(order) + 1)]
            self.assertEqual(height(rule), sum(numbers), text)

    def test_no_heights(self):
        for text in ["-", "touch a", "forget a; touch b", NOTHING, "touch a; cap 1"]:
            self.assertIsNone(height(Rule.of(text)))
            self.assertEqual((above(Rule.of(text)), below(Rule.of(text))), ([], []))

    def test_great_heights(self):
        self.assertEqual(height(Rule.of(f"cap {GREAT}")), GREAT - 1)
        self.assertEqual(height(Rule.of(f"cap {GREAT}; touch a; forget b")), 3 * (GREAT - 1))
        self.assertEqual(height(Rule.of(f"forget b; forget a; cap {GREAT}")), 3 * (GREAT - 1) + 3)

    def test_above_and_below(self):
        for world in WORLDS:
            for text in world.inner:
                self.assertEqual(texts(above(world.rules[text])), sorted(world.above[text]), text)
            for text in world.texts:
                lower = sorted(other for other in world.texts if text in world.above[other])
                self.assertEqual(texts(below(world.rules[text])), lower, text)

    def test_above_and_below_of_what_is_not_plain(self):
        rule = Rule.of("touch b; touch a; forget b; cap 4; touch b")
        self.assertEqual(front(rule), ("b", "a"))
        for found in (above(rule), below(rule)):
            self.assertTrue(found)
            for other in found:
                self.assertEqual((front(other), gone(other), is_plain(other.text)), (("b", "a"), (), True))
        self.assertTrue(all(rule.within(other) for other in above(rule)))
        self.assertTrue(all(other.within(rule) for other in below(rule)))

    def test_up_and_down_again(self):
        chance = random.Random(23)
        for lost in ["abcde", "abcdefghij"]:
            steps = [f"forget {name}" for name in lost]
            rule = Rule.of("; ".join([*steps[:3], "cap 5", *steps[3:]]))
            for _ in range(12):
                higher = chance.choice(at_once(above, rule))
                self.assertEqual(height(higher), height(rule) + 1)
                self.assertIn(plain(rule).text, texts(at_once(below, higher)))
                self.assertEqual(len(set(texts(above(higher)))), len(above(higher)))
                rule = higher
            for _ in range(12):
                lower = chance.choice(at_once(below, rule))
                self.assertEqual(height(lower), height(rule) - 1)
                self.assertIn(rule.text, texts(above(lower)))
                self.assertEqual(len(set(texts(below(lower)))), len(below(lower)))
                rule = lower

    def test_great_numbers(self):
        self.assertEqual(texts(above(Rule.of(f"cap {GREAT - 1}"))), [f"cap {GREAT}"])
        self.assertEqual(texts(below(Rule.of(f"cap {GREAT}"))), [f"cap {GREAT - 1}"])
        self.assertEqual(texts(above(Rule.of(f"touch a; cap {GREAT}"))), [f"cap {GREAT}; touch a"])
        self.assertEqual(texts(below(Rule.of("cap 1"))), [])
        self.assertEqual(texts(below(Rule.of("cap 1; forget a; touch b"))), [])


class Climbed(unittest.TestCase):

    def test_all_pairs(self):
        for world in WORLDS:
            for one, other in product(world.texts, repeat=2):
                found = climb(world.rules[one], world.rules[other])
                if other not in world.around[one]:
                    self.assertIsNone(found, (one, other))
                    continue
                way = [rule.text for rule in found]
                self.assertEqual((way[0], way[-1]), (one, other))
                self.assertEqual(len(way), world.heights[other] - world.heights[one] + 1)
                for text, higher in zip(way, way[1:]):
                    self.assertIn(higher, world.above[text])

    def test_none(self):
        pairs = [
            ("-", "-"), ("cap 1", "-"), ("touch a; cap 1", "touch a; cap 1"), (NOTHING, "cap 1"), ("-", "cap 1"),
            ("cap 1; touch a; touch b", "cap 2; touch b; touch a"), ("cap 1; forget a", "cap 2"),
            ("cap 1", "cap 2; touch a"), ("cap 1; forget a", "cap 2; touch a"), ("cap 2", "cap 1"),
            ("touch a; cap 3", "touch a"),
        ]
        for one, other in pairs:
            self.assertIsNone(climb(Rule.of(one), Rule.of(other)), (one, other))

    def test_ends_are_plain(self):
        one, other = Rule.of("touch a; cap 3; touch a"), Rule.of("cap 7; cap 3; touch a")
        self.assertEqual([rule.text for rule in climb(one, one)], ["forget a; cap 2; touch a"])
        self.assertEqual([rule.text for rule in climb(one, other)], ["forget a; cap 2; touch a", "cap 3; touch a"])

    def test_forty_steps_with_ten_names(self):
        chance = random.Random(29)
        lost = [f"forget {name}" for name in "abcdefghij"]
        starts = [
            ["cap 11", *lost], [*lost, "cap 11"], [f"cap {GREAT - 50}", *lost[:5], f"cap {GREAT - 52}", *lost[5:]],
            ["cap 11", *[step for at in range(5) for step in (*lost[2 * at:2 * at + 2], f"cap {10 - at}")]],
        ]
        for start in starts:
            low = high = Rule.of("; ".join(start))
            for _ in range(40):
                high = chance.choice(above(high))
            way = at_once(climb, low, high)
            self.assertEqual((len(way), way[0] == low, way[-1] == high), (41, True, True))
            for rule, higher in zip(way, way[1:]):
                self.assertTrue(rule.within(higher))
                self.assertEqual(height(higher), height(rule) + 1)


class Several(unittest.TestCase):

    def least(self, world, found):
        around = set.intersection(*[world.around[text] for text in found])
        return sorted(one for one in around if not any(other in world.within[one] and other != one for other in around))

    def greatest(self, world, found):
        within = set.intersection(*[world.within[text] for text in found])
        return sorted(one for one in within if not any(other in world.around[one] and other != one for other in within))

    def both(self, world, found):
        rules = tuple(world.rules[text] for text in found)
        self.assertEqual(texts(least_around(rules)), self.least(world, found), found)
        self.assertEqual(texts(greatest_within(rules)), self.greatest(world, found), found)

    def test_all_pairs(self):
        for world in WORLDS:
            for found in product(world.texts, repeat=2):
                self.both(world, found)

    def test_more_rules(self):
        chance = random.Random(31)
        for world in WORLDS:
            for _ in range(60):
                self.both(world, chance.choices(world.texts, k=chance.randint(1, 6)))

    def test_four_names(self):
        # Rule.within is tried from outside elsewhere.
        names = ("a", "b", "c", "d")
        rules = [rule_of((("d", "a"), ("b", "c"), bounds)) for bounds in lists_below(names, 6)]
        around = [{at for at, other in enumerate(rules) if rule.within(other)} for rule in rules]
        within = [{at for at in range(len(rules)) if place in around[at]} for place in range(len(rules))]
        chance = random.Random(37)
        several = 0
        for _ in range(150):
            found = chance.choices(range(len(rules)), k=chance.randint(2, 6))
            over = set.intersection(*[around[at] for at in found])
            least = sorted(rules[at].text for at in over if within[at] & over == {at})
            under = set.intersection(*[within[at] for at in found])
            greatest = sorted(rules[at].text for at in under if around[at] & under == {at})
            given = tuple(rules[at] for at in found)
            self.assertEqual(texts(least_around(given)), least)
            self.assertEqual(texts(greatest_within(given)), greatest)
            several += (len(least) > 1) + (len(greatest) > 1)
        self.assertGreater(several, 20)

    def test_the_front_of_the_first_one(self):
        one, other = Rule.of("cap 2; touch a; touch b"), Rule.of("cap 3; touch b; touch a")
        self.assertEqual(texts(least_around((one, other))), ["cap 3; touch a; touch b"])
        self.assertEqual(texts(least_around((other, one))), ["cap 3; touch b; touch a"])
        self.assertEqual(texts(greatest_within((one, other))), ["cap 2; touch a; touch b"])
        self.assertEqual(texts(greatest_within((other, one))), ["cap 2; touch b; touch a"])

    def test_constant_ones_and_those_without_bounds(self):
        still, shuffled = Rule.of("touch a; touch b; cap 2"), Rule.of("touch b; touch a; cap 2")
        free, bounded = Rule.of("touch a; touch b"), Rule.of("touch a; cap 9; touch b")
        cases = [
            ((still,), [still.text], [still.text]), ((still, shuffled), [still.text], [still.text]),
            ((shuffled, still), [shuffled.text], [shuffled.text]), ((free,), [free.text], [free.text]),
            ((free, free), [free.text], [free.text]), ((free, still), [free.text], [still.text]),
            ((shuffled, free), ["touch b; touch a"], [shuffled.text]),
            ((bounded, still), ["forget a; cap 8; touch a; touch b"], [still.text]),
            ((shuffled, bounded), ["forget a; cap 8; touch b; touch a"], [shuffled.text]),
            ((bounded, free), [free.text], ["forget a; cap 8; touch a; touch b"]),
            ((free, bounded, still, shuffled), [free.text], [still.text]),
            ((Rule.of(NOTHING), Rule()), ["-"], [NOTHING]),
            ((Rule.of(NOTHING), Rule.of("cap 3")), ["cap 3"], [NOTHING]),
        ]
        for rules, least, greatest in cases:
            self.assertEqual((texts(least_around(rules)), texts(greatest_within(rules))), (least, greatest))

    def test_other_names(self):
        cases = [
            (("touch a; cap 3", "cap 3; touch b; forget a"), "a"), (("touch b", "touch a"), "a"),
            (("-", "touch q"), "q"), (("forget c; forget b", "forget b"), "c"),
            (("touch a; touch b; forget c", "touch b; touch a; forget d"), "c"),
            (("touch z", "forget z; touch y"), "y"), (("touch a", "cap 9; touch a", "forget c", "touch b"), "a"),
            (("touch a; forget d", "touch a; cap 1"), "d"), (("touch a; cap 1", "touch a; forget d"), "d"),
            (("touch a; cap 1", "touch a; touch b; cap 2", "touch c"), "b"),
            (("touch a", "touch a; touch bb; touch ba"), "ba"),
            ((NOTHING, "forget a"), "a"), (("touch z", "touch y; forget a"), "a"),
            (("touch z; forget b", "touch y; forget c"), "b"),
        ]
        for found, name in cases:
            rules = tuple(Rule.of(text) for text in found)
            for function in (least_around, greatest_within):
                with self.subTest(found), self.assertRaises(OtherNames) as caught:
                    function(rules)
                self.assertEqual(vars(caught.exception), {"name": name})

    def test_six_rules_with_great_numbers(self):
        chance = random.Random(41)
        base = GREAT - 10
        for _ in range(25):
            rules = tuple(
                rule_of((("d", "a"), ("b", "c"), tuple((names, number + base + more) for names, number in bounds)))
                for bounds in chance.choices(bound_lists(("a", "b", "c", "d")), k=6) for more in [chance.randrange(5)]
            )
            small = tuple(
                rule_of((*form_of(rule)[:2], tuple((names, number - base) for names, number in form_of(rule)[2])))
                for rule in rules
            )
            for function in (least_around, greatest_within):
                shifted = [
                    (*form_of(rule)[:2], tuple((names, number + base) for names, number in form_of(rule)[2]))
                    for rule in function(small) if form_of(rule)[2][-1][1] > 3
                ]
                found = [form_of(rule) for rule in at_once(function, rules)]
                for form in shifted:
                    self.assertIn(form, found)
            self.assertTrue(all(rule.within(own) for own in least_around(rules) for rule in rules))
            self.assertTrue(all(own.within(rule) for own in greatest_within(rules) for rule in rules))

    def test_six_rules_many_times(self):
        # A generous bound: a sixth of it is needed.
        rules = tuple(Rule.of(text) for text in [
            "cap 4; forget a; cap 3; forget b; cap 2; forget c; cap 1; touch d",
            "forget b; cap 3; forget c; forget a; cap 2; touch d", "forget c; forget a; cap 3; forget b; touch d",
            "cap 3; forget a; forget c; forget b; cap 1; touch d", "forget a; forget b; forget c; touch d; cap 4",
            "cap 5; forget c; cap 4; forget a; cap 3; forget b; touch d",
        ])
        found = within_seconds(0.8, lambda: [texts(greatest_within(rules)) for _ in range(400)])
        self.assertEqual(found, [["cap 3; forget a; forget b; forget c; cap 1; touch d"]] * 400)
        found = within_seconds(0.8, lambda: [texts(least_around(rules)) for _ in range(800)])
        self.assertEqual(found, [["forget a; forget b; forget c; forget d; cap 3; touch d"]] * 800)

    def test_orders_do_not_matter(self):
        found = [
            "cap 5; forget a; forget b; forget c", "forget a; cap 4; forget b; forget c",
            "forget c; cap 4; forget a; forget b; cap 3",
        ]
        expected = None
        for order in permutations(found):
            rules = tuple(Rule.of(text) for text in order)
            answer = (texts(least_around(rules)), texts(greatest_within(rules)))
            self.assertIn(expected, (None, answer))
            expected = answer
