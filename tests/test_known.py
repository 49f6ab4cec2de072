"""Point 10: what is known of the ROW ahead, beside all ROWs of a few NAMEs and what steps make of them."""

import random
import unittest
from collections import defaultdict

from tests.moments import at_once
from tests.outside import all_rows, made, rows_up_to_strangers
from tests.small import plain_text, small_forms, small_texts
from tests.things import other_things
from touchcaps.errors import Endless, NoNumber, NotAhead
from touchcaps.known import (
    can_come, how_many_ahead, is_ahead, least_ahead, lengths, lost, nth_ahead, places, rank_ahead, sight, sight_rows,
    strange_place, was_there,
)
from touchcaps.rules import Rule

GREAT = 10 ** 40
NOTHING = "touch a; cap 1; forget a"
STRANGERS = ("u", "v", "w", "x")
ROWS = all_rows(("a", "b", *STRANGERS))
LONGER = all_rows(("a", "b", "c", *STRANGERS))
SMALL = [
    *small_texts(("a", "b"), 2), "touch a; cap 3; touch b; cap 3; forget a", "cap 3; touch a; touch b; cap 4",
    "touch a; touch b; cap 2; forget b", "touch b; touch a; touch b", "cap 3", "cap 3; forget b; cap 3",
]
THREE = [
    "cap 3; forget a; forget b; cap 2; touch c", "forget a; cap 2; touch b; touch c", "touch a; touch b; touch c; cap 4",
    "cap 3; forget a; forget b; forget c; cap 1", "touch c; forget a; touch b", "touch c; touch a; touch b; cap 3",
]


class World:
    """All rows of some names, by what a rule, told by its text, makes of them."""

    def __init__(self, text, rows, names):
        self.text, self.rule, self.rows, self.names = text, Rule.of(text), rows, names
        self.made = {row: made(text, row) for row in rows}
        self.ahead = defaultdict(list)
        for row in rows:
            self.ahead[self.made[row]].append(row)
        self.begun = {out[:many] for out in self.ahead for many in range(len(out) + 1)}
        # What is constant has nothing gone; otherwise all that never comes out is.
        gone = [name for name in names if len(self.ahead) > 1 and not any(name in out for out in self.ahead)]
        # What is neither gone nor shown is lost.
        self.lost = {row: len([name for name in row if name not in out and name not in gone])
                     for row, out in self.made.items()}


WORLDS = [
    *[World(text, ROWS, ("a", "b")) for text in SMALL], *[World(text, LONGER, ("a", "b", "c")) for text in THREE],
]


class Out(unittest.TestCase):

    def test_what_can_come(self):
        for world in WORLDS:
            for row in rows_up_to_strangers(world.names, STRANGERS[:6 - len(world.names)]):
                came = row in world.ahead
                self.assertIs(can_come(world.rule, row), came, (world.text, row))
                expected = None
                if not came:
                    places_told = [at for at in range(len(row)) if row[:at + 1] not in world.begun]
                    expected = min(places_told, default=len(row))
                self.assertEqual(strange_place(world.rule, row), expected, (world.text, row))
                least = least_ahead(world.rule, row)
                if not came:
                    self.assertIsNone(least)
                else:
                    shortest = min(len(own) for own in world.ahead[row])
                    self.assertEqual([own for own in world.ahead[row] if len(own) == shortest], [least], world.text)

    def test_is_ahead(self):
        for world in WORLDS[::7]:
            for row in rows_up_to_strangers(world.names, STRANGERS)[::5]:
                for thing in rows_up_to_strangers(world.names, STRANGERS):
                    self.assertIs(is_ahead(world.rule, row, thing), world.made[thing] == row)

    def test_things_that_are_not_ahead(self):
        rule = Rule.of("touch a; cap 1")
        self.assertIs(is_ahead(rule, ("a",), ("b", "c")), True)
        self.assertIs(is_ahead(rule, ["a"], ()), True)
        for thing in other_things():
            self.assertIs(is_ahead(rule, ("a",), thing), False, thing)
            self.assertIs(is_ahead(Rule(), (), thing), False, thing)
        self.assertIs(is_ahead(Rule(), ("a", "b"), ["a", "b"]), False)
        many = tuple(chr(97 + one) + chr(97 + other) for one in range(26) for other in range(26))
        self.assertIs(is_ahead(Rule.of("cap 1"), many[:1], many), True)
        self.assertIs(is_ahead(Rule.of("cap 2"), many[:1], many), False)

    def test_strange_places(self):
        rule = Rule.of("cap 2; forget c; touch a; touch b")
        cases = [
            ((), 0), (("b",), 1), (("a",), 0), (("b", "x"), 1), (("b", "a"), None), (("b", "a", "x", "y"), None),
            (("b", "a", "c"), 2), (("b", "a", "x", "y", "z"), 4), (("b", "a", "x", "c", "y"), 3),
        ]
        for row, expected in cases:
            self.assertEqual(strange_place(rule, row), expected, row)
        still = Rule.of("touch b; touch a; cap 2")
        for row, expected in [(("a", "b"), None), ((), 0), (("a",), 1), (("b",), 0), (("a", "c"), 1), (("a", "b", "c"), 2)]:
            self.assertEqual(strange_place(still, row), expected, row)
        self.assertEqual([strange_place(Rule.of(NOTHING), row) for row in [(), ("a",)]], [None, 0])
        self.assertEqual([strange_place(Rule(), row) for row in [(), ("a", "b")]], [None, None])


class Ahead(unittest.TestCase):

    def test_items_lost_and_lengths(self):
        for world in WORLDS:
            for row in rows_up_to_strangers(world.names, STRANGERS[:2]):
                ahead = world.ahead.get(row, [])
                self.lengths_and_lost(world, row, ahead)
                for length in range(len(STRANGERS) + 1):
                    numbers = sorted({world.lost[own] for own in ahead if len(own) == length})
                    told = lost(world.rule, row, length=length)
                    self.assertEqual(told, (numbers[0], numbers[-1]) if numbers else None, (world.text, row, length))
                    if numbers:
                        self.assertEqual(numbers, list(range(numbers[0], numbers[-1] + 1)))

    def lengths_and_lost(self, world, row, ahead):
        if not ahead:
            self.assertIsNone(lengths(world.rule, row))
            self.assertIsNone(lost(world.rule, row))
            return
        numbers = {world.lost[own] for own in ahead}
        sizes = {len(own) for own in ahead}
        endless = numbers != {0}
        self.assertEqual(lost(world.rule, row), (0, None) if endless else (0, 0), (world.text, row))
        least, greatest = lengths(world.rule, row)
        self.assertEqual(least, min(sizes))
        self.assertEqual(greatest, None if endless else max(sizes), (world.text, row))
        self.assertEqual(sizes, set(range(least, max(sizes) + 1)))
        if endless:
            self.assertEqual(max(sizes), len(world.names) + len(STRANGERS))

    def answer(self, ahead, name):
        found = {name in own for own in ahead}
        return {frozenset(): None, frozenset({True}): "yes", frozenset({False}): "no"}.get(frozenset(found), "open")

    def test_who_was_there(self):
        for world in WORLDS:
            for row in rows_up_to_strangers(world.names, STRANGERS[:2]):
                ahead = world.ahead.get(row, [])
                for name in (*world.names, "u", "v", "x"):
                    told = was_there(world.rule, row, name)
                    self.assertEqual(told, self.answer(ahead, name), (world.text, row, name))
                    for length in range(len(STRANGERS) + 1):
                        told = was_there(world.rule, row, name, length=length)
                        expected = self.answer([own for own in ahead if len(own) == length], name)
                        self.assertEqual(told, expected, (world.text, row, name, length))

    def test_at_which_places(self):
        for world in WORLDS:
            for row in rows_up_to_strangers(world.names, STRANGERS[:2]):
                ahead = world.ahead.get(row, [])
                for name in (*world.names, "u", "v", "x"):
                    told = places(world.rule, row, name)
                    if self.answer(ahead, name) != "yes":
                        self.assertIsNone(told)
                    else:
                        found = {own.index(name) for own in ahead}
                        self.assertEqual(found, set(range(told[0], told[1] + 1)), (world.text, row, name))

    def test_great_lengths(self):
        rule = Rule.of("cap 3; touch a")
        self.assertEqual(lost(rule, ("a", "x", "y"), length=GREAT), (GREAT - 3, GREAT - 3))
        self.assertEqual(lost(rule, ("a", "x", "y", "z"), length=GREAT), (GREAT - 4, GREAT - 3))
        self.assertIsNone(lost(rule, ("a", "x"), length=GREAT))
        self.assertEqual(was_there(rule, ("a", "x", "y"), "a", length=GREAT), "yes")
        self.assertEqual(was_there(rule, ("a", "x", "y", "z"), "a", length=GREAT), "open")
        self.assertEqual(lost(Rule.of("touch a; cap 1"), ("a",), length=GREAT), (GREAT - 1, GREAT))
        self.assertEqual(lost(Rule.of(f"cap {GREAT}"), ("a",), length=GREAT), None)
        self.assertEqual(lost(Rule.of(f"cap {GREAT}"), ("a",)), (0, 0))

    def test_constant_rules(self):
        still, nothing = Rule.of("touch b; touch a; cap 2"), Rule.of(NOTHING)
        self.assertEqual([lost(still, ("a", "b"), length=many) for many in range(4)], [(0, 0), (0, 1), (0, 2), (1, 3)])
        self.assertEqual([lost(nothing, (), length=many) for many in range(3)], [(0, 0), (1, 1), (2, 2)])
        self.assertEqual((lost(still, ("a", "b")), lengths(still, ("a", "b"))), ((0, None), (0, None)))
        for name in "abx":
            self.assertEqual([was_there(still, ("a", "b"), name, length=many) for many in (0, 1, 9)], ["no", "open", "open"])
            self.assertEqual(was_there(still, ("a", "b"), name), "open")
            self.assertIsNone(was_there(still, ("b", "a"), name))
            self.assertIsNone(places(still, ("a", "b"), name))
        self.assertIsNone(how_many_ahead(nothing, ()))
        self.assertEqual(how_many_ahead(nothing, ("a",)), 0)

    def test_without_bounds(self):
        rule = Rule.of("forget b; touch a")
        self.assertEqual((lost(rule, ("a", "x")), lengths(rule, ("a", "x"))), ((0, 0), (1, 3)))
        self.assertEqual([was_there(rule, ("a", "x"), name) for name in "abxy"], ["open", "open", "yes", "no"])
        self.assertEqual([was_there(rule, ("a", "x"), "b", length=many) for many in range(5)],
                         [None, "no", "open", "yes", None])
        self.assertEqual(places(rule, ("a", "x"), "x"), (0, 2))
        self.assertEqual((lengths(Rule(), ()), lengths(Rule(), ("a", "b"))), ((0, 0), (2, 2)))


class Seen(unittest.TestCase):

    def test_sight(self):
        for world in WORLDS:
            enough = [
                many for many in range(len(world.names) + len(STRANGERS))
                if all(out == world.made[row[:many]] for row, out in world.made.items())
            ]
            self.assertEqual(sight(world.rule), min(enough, default=None), world.text)

    def test_sight_rows(self):
        texts = [*SMALL, *THREE, *[plain_text(*form) for form in small_forms(("a", "b", "c"), 4)]]
        for text in texts:
            rule = Rule.of(text)
            told = sight_rows(rule)
            if sight(rule) in (0, None):
                self.assertIsNone(told)
            else:
                one, other = told
                self.assertEqual((one, len(other)), (other[:-1], sight(rule)), text)
                self.assertEqual(len(set(other)), len(other))
                self.assertNotEqual(made(text, one), made(text, other), text)

    def test_greatest_sight(self):
        names = [chr(97 + at) for at in range(20)]
        text = "; ".join(["cap 60", *[f"forget {name}" for name in names], "cap 41"])
        self.assertEqual(sight(Rule.of(text)), 60)
        for text in [text, "cap 60", "; ".join([*[f"touch {name}" for name in names], "cap 60"])]:
            one, other = at_once(sight_rows, Rule.of(text))
            self.assertEqual((len(other), one), (60, other[:-1]))
            self.assertNotEqual(made(text, one), made(text, other))

    def test_great_numbers(self):
        self.assertEqual(sight(Rule.of(f"touch a; cap {GREAT}")), GREAT)
        self.assertEqual([sight(Rule.of(text)) for text in ("-", NOTHING, "touch a; cap 1", "cap 1")], [None, 0, 0, 1])


class Numbered(unittest.TestCase):

    def test_all_in_their_order(self):
        endless = 0
        for world in WORLDS:
            for row in rows_up_to_strangers(world.names, STRANGERS[:2]):
                if any(world.lost[own] for own in world.ahead.get(row, [])):
                    endless += 1
                    self.endless(world.rule, row)
                else:
                    ahead = sorted(world.ahead.get(row, []))
                    self.assertEqual(how_many_ahead(world.rule, row), len(ahead), (world.text, row))
                    told = [nth_ahead(world.rule, row, number) for number in range(len(ahead))]
                    self.assertEqual(told, ahead, (world.text, row))
                    self.assertEqual([rank_ahead(world.rule, row, own) for own in ahead], list(range(len(ahead))))
        self.assertGreater(endless, 50)

    def endless(self, rule, row):
        self.assertIsNone(how_many_ahead(rule, row))
        for number in (-1, 0, GREAT):
            with self.assertRaises(Endless) as caught:
                nth_ahead(rule, row, number)
            self.assertEqual(vars(caught.exception), {})
        for own in [(), row, ("q", "r")]:
            with self.assertRaises(Endless):
                rank_ahead(rule, row, own)

    def test_no_number_and_not_ahead(self):
        rule = Rule.of("cap 3; touch a; touch b; cap 4")
        for row, every in [(("b", "a"), 5), (("b",), 0), ((), 0), (("b", "a", "x", "y", "z"), 0)]:
            self.assertEqual(how_many_ahead(rule, row), every)
            for number in (-1, -every, every, every + 1, GREAT):
                if not 0 <= number < every:
                    with self.assertRaises(NoNumber) as caught:
                        nth_ahead(rule, row, number)
                    self.assertEqual(vars(caught.exception), {"number": number})
        for row, own in [(("b", "a"), ("x",)), (("b", "a"), ("a", "b", "x")), (("b",), ()), ((), ()), (("a",), ("a",))]:
            with self.assertRaises(NotAhead) as caught:
                rank_ahead(rule, row, own)
            self.assertEqual(vars(caught.exception), {})
        self.assertEqual(how_many_ahead(Rule(), ("a", "b")), 1)
        self.assertEqual(nth_ahead(Rule(), ("a", "b"), 0), ("a", "b"))
        with self.assertRaises(NotAhead):
            rank_ahead(Rule(), ("a", "b"), ("b", "a"))

    def test_twenty_names_and_sixty_items(self):
        names = [chr(97 + at) for at in range(20)]
        text = "; ".join([*[f"touch {name}" for name in names[:9]], *[f"forget {name}" for name in names[9:]]])
        rule = Rule.of(text)
        row = (*names[8::-1], *[f"z{chr(97 + at // 26)}{chr(97 + at % 26)}" for at in range(51)])
        self.assertEqual(len(row), 60)
        every = at_once(how_many_ahead, rule, row)
        self.assertEqual(every, self.counted(51, 20))
        chance = random.Random(83)
        numbers = sorted([0, 1, every - 1, *[chance.randrange(every) for _ in range(10)]])
        found = [at_once(nth_ahead, rule, row, number) for number in numbers]
        self.assertEqual(found, sorted(found))
        self.assertEqual([at_once(rank_ahead, rule, row, own) for own in found], numbers)
        self.assertTrue(all(made(text, own) == row for own in found))
        for own in names:
            self.assertEqual(at_once(was_there, rule, row, own), "open")
        self.assertEqual(at_once(places, rule, row, row[-1]), (50, 70))

    def counted(self, many, named):
        """One way behind another: a name more goes to any of the places that there are."""
        ways, every = 1, 1
        for more in range(named):
            ways = ways * (named - more) * (many + more + 1) // (more + 1)
            every += ways
        return every
