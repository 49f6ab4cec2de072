"""Point 11: what rules cost, beside all ways to do steps one behind another."""

import heapq
import random
import unittest
from itertools import combinations

from tests.moments import at_once
from tests.outside import done, made
from tests.small import small_texts
from touchcaps.costs import cheapest, fewest, further, needless, price_of, touched_once
from touchcaps.forms import constant, front
from touchcaps.rules import Rule

GREAT = 10 ** 40
NOTHING = "touch a; cap 1; forget a"
ONE_EACH = {"touch": 1, "forget": 1, "cap": 1}
PRICES = [
    ONE_EACH, {"touch": 2, "forget": 1, "cap": 5}, {"touch": 1, "forget": 2, "cap": 1}, {"touch": 7, "forget": 7, "cap": 1},
    {"touch": 1, "forget": 10 ** 12, "cap": 3}, {"touch": 10 ** 12, "forget": 1, "cap": 10 ** 12 - 1},
]


class Steps:
    """All rules of some names whose caps are not too great, told by what they make of rows that tell them apart.

    The steps lead from one of them to another one.
    """

    def __init__(self, names, top):
        self.names = names
        self.parts = [f"{kind} {name}" for kind in ("touch", "forget") for name in names]
        self.parts.extend(f"cap {number}" for number in range(1, top + 1))
        others = tuple("mnopqrstuvwxyz"[:top + 1])
        self.rows = [(*own, *others) for many in range(len(names) + 1) for own in combinations(names, many)]
        self.start = tuple(self.rows)
        self.behind = {}
        newest = [self.start]
        while newest:
            for state in newest:
                self.behind[state] = {part: tuple(done(part, row) for row in state) for part in self.parts}
            newest = sorted({own for state in newest for own in self.behind[state].values()} - set(self.behind))

    def state(self, text):
        return tuple(made(text, row) for row in self.rows)

    def least(self, start, price):
        """The least price at which each state can be reached from this one; price tells that of each step."""
        found, queue = {}, [(0, start)]
        while queue:
            sum_of, state = heapq.heappop(queue)
            if state not in found:
                found[state] = sum_of
                for part, behind in self.behind[state].items():
                    if behind not in found:
                        heapq.heappush(queue, (sum_of + price(part), behind))
        return found


TWO = Steps(("a", "b"), 5)
THREE = Steps(("a", "b", "c"), 6)
# Bounds to 3 come from caps that are greater by no more than there are names.
TEXTS = {TWO: small_texts(("a", "b"), 3), THREE: small_texts(("a", "b", "c"), 3)}


class Alone(unittest.TestCase):

    def test_fewest_steps(self):
        for steps, texts in TEXTS.items():
            least = steps.least(steps.start, lambda part: 1)
            for text in texts:
                own = fewest(Rule.of(text))
                self.assertIs(type(own), Rule)
                self.assertEqual(steps.state(own.text), steps.state(text), text)
                self.assertEqual(len(own), least[steps.state(text)], text)

    def test_cheapest(self):
        for steps, texts in TEXTS.items():
            for prices in PRICES:
                least = steps.least(steps.start, lambda part: prices[part.split(" ")[0]])
                for text in texts[::1 if steps is TWO else 3]:
                    own = cheapest(Rule.of(text), prices)
                    self.assertEqual(steps.state(own.text), steps.state(text), (text, prices))
                    self.assertEqual(price_of(own, prices), least[steps.state(text)], (text, prices))

    def test_rules_that_are_not_plain(self):
        chance = random.Random(89)
        fewer = {steps: steps.least(steps.start, lambda part: 1) for steps in TEXTS}
        for _ in range(300):
            steps = chance.choice(list(TEXTS))
            text = "; ".join(chance.choices(steps.parts[:-2], k=chance.randint(1, 9)))
            self.assertEqual(steps.state(fewest(Rule.of(text)).text), steps.state(text))
            self.assertLessEqual(len(fewest(Rule.of(text))), fewer[steps][steps.state(text)], text)
            places = [
                at for at, _ in enumerate(text.split("; "))
                if steps.state("; ".join([*text.split("; ")[:at], *text.split("; ")[at + 1:]]) or "-") == steps.state(text)
            ]
            self.assertEqual(needless(Rule.of(text)), tuple(places), text)

    def test_touched_once(self):
        # Those of which some alike rule names them in a single step.
        for steps, texts in TEXTS.items():
            times = {name: steps.least(steps.start, lambda part: int(part.endswith(name))) for name in steps.names}
            for text in texts:
                rule = Rule.of(text)
                expected = [name for name in sorted(front(rule)) if times[name][steps.state(text)] == 1]
                if constant(rule) is not None:
                    expected = sorted(constant(rule))
                self.assertEqual(touched_once(rule), tuple(expected), text)

    def test_the_numbers_of_steps_that_are_told(self):
        cases = [
            ("-", 0), (NOTHING, 3), ("touch q; cap 1; forget q", 3), ("touch b; touch a; cap 2", 3), ("cap 5; cap 7", 1),
            ("cap 3; touch a; touch b; cap 4", 4), ("touch a; touch b; touch a", 2), ("forget a; touch a", 1),
        ]
        for text, many in cases:
            self.assertEqual(len(fewest(Rule.of(text))), many, text)

    def test_needless(self):
        cases = [
            ("-", ()), ("touch a; touch a", (0, 1)), (NOTHING, ()), ("touch b; cap 1; touch a; cap 1; cap 1", (0, 1, 3, 4)),
            ("cap 2; cap 2", (0, 1)), ("forget a; touch a; forget a", (0, 1)),
        ]
        for text, places in cases:
            self.assertEqual(needless(Rule.of(text)), places, text)

    def test_prices(self):
        prices = {"touch": 3, "forget": 10, "cap": 100}
        self.assertEqual(price_of(Rule(), prices), 0)
        self.assertEqual(price_of(Rule.of("touch a; touch a; forget b; cap 1"), prices), 116)
        self.assertEqual(price_of(Rule.of("; ".join(["cap 1"] * 60)), {**prices, "cap": 10 ** 12}), 60 * 10 ** 12)
        self.assertEqual(prices, {"touch": 3, "forget": 10, "cap": 100})

    def test_sixty_steps(self):
        names = [chr(97 + at) for at in range(20)]
        long = [f"{kind} {name}" for name in names for kind in ("touch", "forget")]
        long = [*long, *[f"cap {GREAT - at}" for at in range(10)], *[f"touch {name}" for name in names[:10]]]
        for parts in [long, long[::-1], ["touch a", "cap 9"] * 30, [f"touch {name}" for name in names * 3]]:
            rule = Rule.of("; ".join(parts))
            self.assertEqual(len(rule), 60)
            self.assertEqual(at_once(fewest, rule), rule)
            self.assertEqual(at_once(cheapest, rule, PRICES[4]), rule)
            for place in at_once(needless, rule):
                self.assertEqual(Rule((*rule.steps[:place], *rule.steps[place + 1:])), rule)
            at_once(touched_once, rule)
            self.assertEqual(at_once(further, rule, rule).text, "-")
            self.assertEqual(rule >> at_once(further, rule, rule >> rule), rule >> rule)


class Further(unittest.TestCase):

    def told(self, steps, one, others):
        least = steps.least(steps.state(one), lambda part: 1)
        for other in others:
            own = further(Rule.of(one), Rule.of(other))
            many = least.get(steps.state(other))
            if many is None:
                self.assertIsNone(own, (one, other))
            else:
                self.assertEqual(len(own), many, (one, other))
                self.assertEqual(tuple(made(own.text, row) for row in steps.state(one)), steps.state(other), (one, other))

    def test_two_names(self):
        for one in TEXTS[TWO]:
            self.told(TWO, one, TEXTS[TWO])

    def test_three_names(self):
        chance = random.Random(97)
        for one in [*chance.sample(TEXTS[THREE], 25), "touch b; touch a; cap 2", "touch c; touch b; touch a; cap 3"]:
            least = THREE.least(THREE.state(one), lambda part: 1)
            ahead = [other for other in TEXTS[THREE] if THREE.state(other) in least]
            self.told(THREE, one, [*chance.sample(ahead, min(60, len(ahead))), *chance.sample(TEXTS[THREE], 10)])

    def test_constant_ones(self):
        cases = [
            ("touch a; cap 1", "-", None), ("touch a; cap 1", "touch a", None), (NOTHING, NOTHING, 0),
            ("touch b; cap 1", NOTHING, 1), ("-", NOTHING, 3), ("forget a; cap 2", NOTHING, 3), ("touch b", NOTHING, 2),
            ("touch a; touch b; cap 2", NOTHING, 2), ("touch c; touch b; touch a", "touch c; touch a; cap 2", 2),
            ("touch c; touch b; touch a; cap 3", "touch c; touch a; cap 2", 1),
            ("touch c; touch b; touch a; cap 3", "touch b; touch a; cap 2", 1), ("-", "touch b; touch a; cap 2", 3),
            ("touch c; touch b; touch a; cap 3", "touch a; cap 1", 1), (NOTHING, "touch b; touch a; cap 2", 2),
            ("touch a; cap 1", "touch a; touch b; cap 2", 1), ("touch a", "touch a; touch b; cap 2", 2),
        ]
        for one, other, many in cases:
            own = further(Rule.of(one), Rule.of(other))
            self.assertEqual(None if own is None else len(own), many, (one, other))
            if own is not None:
                self.assertEqual(Rule.of(one) >> own, Rule.of(other))
