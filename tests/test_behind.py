"""Point 8: one rule behind another, beside what all small rules make of all rows of a few NAMEs."""

import random
import unittest
from itertools import product

from tests.moments import at_once
from tests.outside import made, rows_up_to_strangers
from tests.small import constant_text, fronts_within, plain_text, small_forms, small_texts
from touchcaps.behind import either_order, front_of, idle_ahead, idle_behind, meeting, rest_of, settles, steady
from touchcaps.forms import bounds, constant, form_of, front, gone
from touchcaps.rules import Rule

GREAT = 10 ** 40
NOTHING = "touch a; cap 1; forget a"


class World:
    """Some rules, told by their texts, and what comes of rows if they are done behind one another."""

    def __init__(self, names, strangers, few, many):
        self.few, self.many = small_texts(names, few), small_texts(names, many)
        self.rows = rows_up_to_strangers(names, strangers)
        self.known, self.results = {}, {}
        self.whole = {self.after(text): text for text in self.few}
        self.fixed = {self.after(text) for text in self.few if constant(Rule.of(text)) is not None}

    def row_after(self, text, row):
        if (text, row) not in self.known:
            self.known[text, row] = made(text, row)
        return self.known[text, row]

    def after(self, *texts):
        """What comes of all rows behind these rules: a number for each such result."""
        found = self.rows
        for text in texts:
            found = [self.row_after(text, row) for row in found]
        return self.results.setdefault(tuple(found), len(self.results))


SMALL = World(("a",), ("v", "w", "x", "y", "z"), 3, 4)
LARGE = World(("a", "b"), ("v", "w", "x", "y", "z"), 2, 4)
FOUR = World(("a", "b"), ("v", "w", "x", "y", "z"), 3, 3)


class Twice(unittest.TestCase):

    def test_from_outside(self):
        for text in FOUR.few:
            rule = Rule.of(text)
            results = [FOUR.after(*[text] * times) for times in range(4)]
            self.assertEqual(results[2], results[3])
            self.assertIs(steady(rule), results[1] == results[2], text)
            self.assertEqual(settles(rule), results.index(results[3]), text)

    def test_by_the_front_and_the_numbers(self):
        found = [*small_forms(("a", "b", "c"), 4)]
        for form in random.Random(43).sample(found, 400):
            row, _, chain = form
            expected = all(
                len([name for name in row if name not in names]) <= number - chain[-1][1] for names, number in chain
            )
            self.assertIs(steady(Rule.of(plain_text(*form))), expected, form)

    def test_edges(self):
        for text, times in [
            ("-", 0), ("forget a", 1), ("touch a", 1), ("touch a; touch b", 1), (NOTHING, 1), ("touch a; cap 1", 1),
            ("cap 1", 1), ("cap 1; touch a", 2), ("cap 2; touch a; touch b", 2), (f"cap {GREAT}; touch a", 2),
            (f"touch a; cap {GREAT}", 1), ("touch a; forget a; cap 9; cap 8", 1),
        ]:
            rule = Rule.of(text)
            self.assertEqual((settles(rule), steady(rule)), (times, times < 2), text)


class Compared(unittest.TestCase):

    def test_from_outside(self):
        for world in (SMALL, FOUR):
            pairs = [*product(world.few, repeat=2)]
            for p, other in random.Random(47).sample(pairs, min(3000, len(pairs))):
                one, two = Rule.of(p), Rule.of(other)
                self.assertIs(idle_behind(one, two), world.after(p, other) == world.after(p), (p, other))
                self.assertIs(idle_ahead(one, two), world.after(other, p) == world.after(p), (p, other))
                self.assertIs(either_order(one, two), world.after(p, other) == world.after(other, p), (p, other))

    def test_edges(self):
        still = Rule.of("touch a; cap 1")
        self.assertIs(idle_ahead(still, Rule.of("touch b; cap 9")), True)
        self.assertIs(idle_behind(still, Rule.of("touch a; cap 9")), True)
        self.assertIs(idle_behind(still, Rule.of("touch b; cap 9")), False)
        self.assertIs(either_order(still, Rule.of(NOTHING)), False)
        self.assertIs(either_order(still, still), True)
        self.assertIs(either_order(Rule(), Rule.of(f"cap {GREAT}; touch b")), True)
        self.assertIs(idle_behind(Rule.of(f"cap {GREAT}"), Rule.of(f"cap {GREAT + 1}")), True)
        self.assertIs(idle_behind(Rule.of(f"cap {GREAT}"), Rule.of(f"cap {GREAT - 1}")), False)


class Behind(unittest.TestCase):

    def test_the_form_of_one_behind_another(self):
        # The guarantee that all of this leans on.
        found = small_forms(("a", "b"), 3)
        for one, other in random.Random(53).sample([*product(found, repeat=2)], 3000):
            p, x = Rule.of(plain_text(*one)), Rule.of(plain_text(*other))
            named = {*one[0], *one[1]}
            chain = [*one[2]]
            for names, number in other[2]:
                less = len([name for name in one[0] if name not in names])
                chain.append((tuple(sorted(named | set(names))), number - less))
            if min([number for _, number in chain], default=1) < 1:
                self.assertIsNotNone(constant(p >> x))
                continue
            row = (*other[0], *[name for name in one[0] if name not in other[0] and name not in other[1]])
            lost = tuple(sorted((named | {*other[0], *other[1]}) - set(row)))
            kept = [own for own in set(chain) if not any(own != far and self.follows(own, far) for far in chain)]
            self.assertEqual(form_of(p >> x), (row, lost, tuple(sorted(kept, key=lambda own: len(own[0])))))

    def follows(self, one, other):
        return one[1] >= other[1] + len(set(other[0]) - set(one[0]))


class Rest(unittest.TestCase):

    def rests(self, world, wholes):
        for p in world.few:
            reached = {world.after(p, x) for x in world.many}
            for whole in wholes:
                self.rest(world, p, whole, reached)

    def rest(self, world, p, whole, reached):
        x = rest_of(Rule.of(p), Rule.of(whole))
        if x is None:
            self.assertNotIn(world.after(whole), reached, (p, whole))
        else:
            self.assertEqual(world.after(p, x.text), world.after(whole), (p, whole, x.text))

    def test_one_name(self):
        self.rests(SMALL, SMALL.few)

    def test_two_names(self):
        self.rests(LARGE, LARGE.few)

    def test_by_the_guarantee(self):
        found = [plain_text(*form) for form in small_forms(("a", "b", "c"), 4)]
        chance = random.Random(59)
        several = 0
        for _ in range(2500):
            p, x = Rule.of(chance.choice(found)), Rule.of(chance.choice(found))
            whole = p >> x if chance.random() < 0.6 else x
            expected = constant(whole) is not None or self.guaranteed(form_of(p), form_of(whole))
            rest = rest_of(p, whole)
            self.assertIs(rest is not None, expected, (p.text, whole.text))
            self.assertIs(rest is None or p >> rest == whole, True)
            several += rest is not None
        self.assertGreater(several, 500)

    def guaranteed(self, form, whole):
        named, every = {*form[0], *form[1]}, {*whole[0], *whole[1]}
        return named <= every and all(
            any(own[1] >= far[1] + len(set(far[0]) - set(own[0])) for far in whole[2]) for own in form[2]
        ) and all(far in form[2] for far in whole[2] if not named <= set(far[0]))

    def test_constant_ones(self):
        still, nothing, rule = Rule.of("touch b; touch a; cap 2"), Rule.of(NOTHING), Rule.of("touch a; cap 3")
        for p in (still, nothing, rule, Rule()):
            for whole in (still, nothing, Rule.of("touch c; cap 1")):
                self.assertIs(p >> rest_of(p, whole) == whole, True)
        self.assertIsNone(rest_of(still, rule))
        self.assertIsNone(rest_of(nothing, Rule()))
        self.assertIsNone(rest_of(rule, Rule()))
        self.assertIs(rest_of(Rule(), Rule()) == Rule(), True)

    def test_great_ones(self):
        names = [first + second for first in "abcd" for second in "klmnopqrst"]
        steps = [f"{'touch' if at % 2 else 'forget'} {names[(at - at // 3) % 40]}" for at in range(60)]
        steps[2::3] = [f"cap {GREAT - at}" for at in range(20)]
        p, x = Rule.of("; ".join(steps)), Rule.of("; ".join(steps[::-1]))
        for one, other in [(p, x), (x, p), (p, p)]:
            rest, ahead = at_once(rest_of, one, one >> other), at_once(front_of, other, one >> other)
            self.assertIs(one >> rest == one >> other, True)
            self.assertIs(ahead >> other == one >> other, True)
        x, y = at_once(meeting, Rule.of("; ".join(steps[:2])), Rule.of("; ".join(steps[30:32])))
        self.assertIs(Rule.of("; ".join(steps[:2])) >> x == Rule.of("; ".join(steps[30:32])) >> y, True)


class Front(unittest.TestCase):

    def fronts(self, world, wholes):
        for p in world.few:
            reached = {world.after(x, p) for x in world.many}
            for whole in wholes:
                x = front_of(Rule.of(p), Rule.of(whole))
                if x is None:
                    self.assertNotIn(world.after(whole), reached, (p, whole))
                else:
                    self.assertEqual(world.after(x.text, p), world.after(whole), (p, whole, x.text))

    def test_one_name(self):
        self.fronts(SMALL, SMALL.few)

    def test_two_names(self):
        self.fronts(LARGE, LARGE.few)

    def test_by_the_guarantee(self):
        found = [plain_text(*form) for form in small_forms(("a", "b", "c"), 4)]
        found.extend(constant_text(row) for row in fronts_within(("a", "b", "c")))
        chance = random.Random(61)
        several = 0
        for _ in range(2500):
            p, x = Rule.of(chance.choice(found)), Rule.of(chance.choice(found))
            whole = x >> p if chance.random() < 0.6 else x
            expected = whole == p if constant(p) is not None else self.guaranteed(form_of(p), form_of(whole))
            ahead = front_of(p, whole)
            self.assertIs(ahead is not None, expected, (p.text, whole.text))
            self.assertIs(ahead is None or ahead >> p == whole, True)
            several += ahead is not None
        self.assertGreater(several, 500)

    def guaranteed(self, form, whole):
        named, every = {*form[0], *form[1]}, {*whole[0], *whole[1]}
        behind = whole[0][len(form[0]):]
        if whole[0][:len(form[0])] != form[0] or named & set(behind):
            return False
        if whole[2] == (((), 0),):
            return all(number >= len(behind) for _, number in form[2])
        if not named <= every or form[2] and not whole[2]:
            return False
        return all(number >= len(behind) + whole[2][-1][1] for _, number in form[2])

    def test_constant_ones(self):
        still, nothing = Rule.of("touch b; touch a; cap 2"), Rule.of(NOTHING)
        self.assertIs(front_of(still, Rule.of("touch c; touch b; touch a; cap 2")) >> still == still, True)
        self.assertIs(front_of(nothing, nothing) >> nothing == nothing, True)
        for whole in (Rule(), nothing, Rule.of("touch b; touch a"), Rule.of("touch a; touch b; cap 2")):
            self.assertIsNone(front_of(still, whole))
        rule = Rule.of("cap 2; touch a")
        for whole in (Rule.of("touch c; touch b; touch a; cap 3"), Rule.of("touch a; cap 1")):
            self.assertIs(front_of(rule, whole) >> rule == whole, True)
        self.assertIsNone(front_of(rule, Rule.of("touch d; touch c; touch b; touch a; cap 4")))
        self.assertIsNone(front_of(rule, nothing))
        self.assertIsNone(front_of(rule, Rule.of("touch a; touch b; cap 2")))

    def test_names_of_p_behind_its_front(self):
        self.assertIsNone(front_of(Rule.of("forget b; touch a"), Rule.of("touch b; touch a")))
        self.assertIsNone(front_of(Rule.of("touch a; touch b"), Rule.of("touch b")))


class Meeting(unittest.TestCase):

    def meetings(self, world, pairs):
        reached = {p: {world.after(p, x) for x in world.many} - world.fixed for p in world.few}
        for p, other in pairs:
            found = meeting(Rule.of(p), Rule.of(other))
            if found is None:
                self.assertFalse(reached[p] & reached[other], (p, other))
                continue
            self.assertIs(type(found), tuple)
            x, y = found
            self.assertEqual(world.after(p, x.text), world.after(other, y.text), (p, other))
            self.assertIsNone(constant(Rule.of(p) >> x))

    def test_one_name(self):
        self.meetings(SMALL, product(SMALL.few, repeat=2))

    def test_two_names(self):
        self.meetings(LARGE, product(LARGE.few, repeat=2))

    def test_by_the_guarantee(self):
        found = [plain_text(*form) for form in small_forms(("a", "b", "c"), 3)]
        chance = random.Random(67)
        several = 0
        for _ in range(2000):
            p, other = Rule.of(chance.choice(found)), Rule.of(chance.choice(found))
            pair = meeting(p, other)
            self.assertIs(pair is not None, self.guaranteed(p, other), (p.text, other.text))
            self.assertIs(pair is None or p >> pair[0] == other >> pair[1], True)
            several += pair is not None
        self.assertGreater(several, 200)

    def guaranteed(self, p, other):
        named, far = {*front(p), *gone(p)}, {*front(other), *gone(other)}
        given = [(tuple(sorted(named | far)), 1)]
        given.extend(own for own in bounds(p) if own in bounds(other) or far <= set(own[0]))
        given.extend(own for own in bounds(other) if named <= set(own[0]))
        return all(
            any(own[1] >= one[1] + len(set(one[0]) - set(own[0])) for one in given)
            for own in (*bounds(p), *bounds(other))
        )

    def test_edges(self):
        still, nothing = Rule.of("touch a; cap 1"), Rule.of(NOTHING)
        rules = (still, nothing, Rule(), Rule.of("cap 2"))
        for p, other in [*product(rules[:2], rules), *product(rules[2:], rules[:2])]:
            self.assertIsNone(meeting(p, other))
        for text in ["-", "touch a", "cap 1", f"cap {GREAT}; touch b", "touch c; cap 3; forget c"]:
            rule = Rule.of(text)
            x, y = meeting(rule, rule)
            self.assertIs(rule >> x == rule >> y, True)
            self.assertIsNone(constant(rule >> x))
