"""Point 13: great lists, beside ROWs that have a NAME at each place."""

import random
import unittest
from itertools import permutations

from tests.moments import at_once
from tests.outside import made, texts_to
from tests.things import other_things
from touchcaps.errors import BadPlace, BadText, NoName, NoPlace
from touchcaps.longs import Long
from touchcaps.rules import Rule
from touchcaps.steps import Step

GREAT = 10 ** 40
NAMED = ("a", "b", "c")
PARTS = [*[f"{kind} {name}" for kind in ("touch", "forget") for name in NAMED], "cap 1", "cap 2", "cap 4"]
SIXTY = [chr(97 + at // 26) + chr(97 + at % 26) for at in range(60)]


def row_beside(size, places):
    """A ROW of so many NAMEs, with these ones at their places and other ones everywhere else."""
    row = [f"other{'abcdefghijklmnopqrstuvwxyz'[place]}" for place in range(size)]
    for name, place in places:
        row[place] = name
    return tuple(row)


def places_in(row):
    return tuple(sorted((name, row.index(name)) for name in NAMED if name in row))


def drawn_list(chance, most):
    size = chance.randint(0, most)
    names = chance.sample(NAMED, chance.randint(0, min(size, len(NAMED))))
    return size, tuple(zip(names, chance.sample(range(size), len(names))))


class Lists(unittest.TestCase):

    def test_pairs_in_any_order(self):
        pairs = (("c", 0), ("a", 7), ("b", 3))
        for own in permutations(pairs):
            long = Long(9, own)
            self.assertEqual((long.size, long.places), (9, (("a", 7), ("b", 3), ("c", 0))))
            self.assertIs(long == Long(9, pairs), True)
        self.assertEqual((Long().size, Long().places, Long(3).places), (0, (), ()))

    def test_equal_to_nothing_else(self):
        long = Long(5, (("a", 1),))
        others = [Long(5), Long(6, (("a", 1),)), Long(5, (("a", 2),)), Long(5, (("b", 1),)), Long(5, (("a", 1), ("b", 2)))]
        for other in [*others, *other_things(), 5, "5: a 1", (5, (("a", 1),)), {"a": 1}]:
            self.assertIs(long == other, False, other)
            self.assertIs(other == long, False, other)
            self.assertIs(long != other, True)
        self.assertIs(long == Long.of("5: a 1"), True)

    def test_bad_places(self):
        cases = [
            (0, (("a", 0),), "a"), (3, (("a", 3),), "a"), (3, (("a", -1),), "a"), (3, (("a", 0), ("b", 0)), "b"),
            (3, (("a", 0), ("a", 1)), "a"), (3, (("b", 0), ("c", 9), ("b", 1)), "c"), (3, (("b", 0), ("b", 1), ("c", 9)), "b"),
            (3, (("z", 1), ("a", 2), ("b", 1), ("c", 3)), "b"), (GREAT, (("a", GREAT),), "a"),
            (9, (("a", 0), ("b", 1), ("a", 1)), "a"), (2, (("c", 0), ("b", 2), ("a", 0)), "b"),
        ]
        for size, places, name in cases:
            with self.assertRaises(BadPlace) as caught:
                Long(size, places)
            self.assertEqual(vars(caught.exception), {"name": name})
        self.assertEqual(Long(GREAT, (("a", GREAT - 1),)).places, (("a", GREAT - 1),))

    def test_items(self):
        long = Long(9, (("a", 7), ("b", 3)))
        self.assertEqual((long["a"], long["b"], "a" in long, "c" in long), (7, 3, True, False))
        for thing in [name for name in other_things() if not isinstance(name, (list, tuple, dict))]:
            self.assertIs(thing in long, False)
        for name in ("c", "aa"):
            with self.assertRaises(NoName) as caught:
                long[name]
            self.assertEqual(vars(caught.exception), {"name": name})
        for call in (iter, list, tuple, sorted, lambda own: [one for one in own]):
            with self.assertRaises(TypeError):
                call(long)

    def test_it_does_not_change(self):
        places = [["a", 4], ["b", 2]]
        long = Long(10, places)
        places[0][1] = 9
        places.append(["c", 1])
        self.assertEqual(long.text, "10: a 4, b 2")
        long.after(Rule.of("touch a; cap 1"))
        self.assertEqual((long.text, type(long.places), type(long.places[0])), ("10: a 4, b 2", tuple, tuple))
        for name in ("size", "places", "text"):
            with self.assertRaises(AttributeError):
                setattr(long, name, None)
        self.assertEqual(Long(places=(("a", 1),), size=2).text, "2: a 1")


class Texts(unittest.TestCase):

    def test_there_and_back(self):
        chance = random.Random(149)
        for _ in range(200):
            size, places = drawn_list(chance, 9)
            long = Long(size, places)
            self.assertEqual(long.text, str(size) + ("" if not places else ": ") + ", ".join(
                f"{name} {place}" for name, place in sorted(places)))
            self.assertIs(Long.of(long.text) == long, True)
        self.assertEqual((Long().text, Long(GREAT).text), ("0", str(GREAT)))

    def test_bad_texts(self):
        wrong = [
            "", " ", "-", "a", "01", "-1", "+1", "1 ", " 1", "1:", "1: ", "1:a 0", "1:  a 0", "1: a  0", "1: a 0 ", "1: a 00",
            "1: a", "1: 0", "1: a 1", "2: a 0,b 1", "2: a 0,  b 1", "2: b 0, a 1", "2: a 0, a 1", "2: a 0, b 0", "2: a 0,",
            "2: a 0; b 1", "2: A 0", "2: a 0, b 1,", "2, a 0", "2 : a 0", "2: a -1", "2: a \uff10", "\u0663", "1:: a 0",
            "2: a 0\n", "\n2", "2\n", "2: a 0, b 1\n", "1: a 0: b 0", "1_0", "1.0", "0x1", "2: , a 0", "2:, a 0", "2: a 0 1",
        ]
        for text in wrong:
            with self.assertRaises(BadText) as caught:
                Long.of(text)
            self.assertEqual(vars(caught.exception), {})

    def test_sixty_pairs(self):
        pairs = tuple((name, GREAT - 3 * place - 1) for place, name in enumerate(SIXTY))
        long = Long(GREAT, pairs)
        self.assertEqual(len(long.text), 41 + 60 * (2 + 2 + 1 + 40))
        self.assertIs(at_once(Long.of, long.text) == long, True)
        self.assertIs(at_once(Long, GREAT, pairs[::-1]) == long, True)


class BesideRows(unittest.TestCase):

    def beside(self, size, places, text):
        long, rule, row = Long(size, places), Rule.of(text), row_beside(size, places)
        out = made(text, row)
        after = long.after(rule)
        self.assertEqual((after.size, after.places), (len(out), places_in(out)), (row, text))
        self.assertEqual(long.lost(rule), len(set(row) - set(out)), (row, text))
        for place in range(size):
            expected = out.index(row[place]) if row[place] in out else None
            self.assertEqual(long.goes(rule, place), expected, (row, text, place))
        for place in range(len(out)):
            expected = row.index(out[place]) if out[place] in row else None
            self.assertEqual(long.comes(rule, place), expected, (row, text, place))
        for ask, many in ((long.goes, size), (long.comes, len(out))):
            for place in (-1, -many, many, many + 1, GREAT, -GREAT):
                if not 0 <= place < many:
                    with self.assertRaises(NoPlace) as caught:
                        ask(rule, place)
                    self.assertEqual(vars(caught.exception), {"place": place})

    def test_each_step(self):
        chance = random.Random(151)
        for part in ["-", *PARTS]:
            for _ in range(60):
                self.beside(*drawn_list(chance, 7), part)

    def test_two_steps(self):
        chance = random.Random(157)
        for text in texts_to(2, PARTS):
            for _ in range(4):
                self.beside(*drawn_list(chance, 6), text)

    def test_many_steps(self):
        chance = random.Random(163)
        for _ in range(400):
            text = "; ".join(chance.choices([*PARTS, "cap 6", "cap 9"], k=chance.randint(3, 12)))
            self.beside(*drawn_list(chance, 9), text)

    def test_no_items_and_constant_rules(self):
        for text in ["-", "touch a", "forget a", "cap 1", "touch a; cap 1; forget a", "touch b; touch a; cap 2", "cap 3"]:
            for size, places in [(0, ()), (1, ()), (1, (("a", 0),)), (5, (("b", 4), ("c", 0)))]:
                self.beside(size, places, text)
        great = Long(GREAT, (("a", GREAT - 1), ("x", 0)))
        nothing, still = Rule.of("touch a; cap 1; forget a"), Rule.of("touch b; touch a; cap 2")
        self.assertEqual((great.after(nothing).text, great.lost(nothing)), ("0", GREAT))
        self.assertEqual((great.after(still).text, great.lost(still)), ("2: a 0, b 1", GREAT - 1))
        self.assertEqual([great.goes(still, place) for place in (0, 5, GREAT - 1)], [None, None, 0])
        self.assertEqual([great.comes(still, place) for place in (0, 1)], [GREAT - 1, None])


class Great(unittest.TestCase):

    def test_as_in_a_small_one(self):
        # Ten places are enough to see what so many do: places behind the NAMEs move as one.
        chance = random.Random(167)
        for _ in range(200):
            size, places = drawn_list(chance, 8)
            text = "; ".join(chance.choices([part for part in PARTS if part[:3] != "cap"], k=chance.randint(1, 8)))
            small, great, rule = Long(9 + size, places), Long(GREAT, places), Rule.of(text)
            self.assertEqual(great.after(rule).places, small.after(rule).places)
            self.assertEqual(great.after(rule).size - GREAT, small.after(rule).size - small.size)
            self.assertEqual(great.lost(rule), small.lost(rule))
            self.assertEqual(great.goes(rule, GREAT - 1) - GREAT, small.goes(rule, small.size - 1) - small.size)
            last = great.after(rule).size - 1
            self.assertEqual(great.comes(rule, last), GREAT - 1)

    def test_sixty_pairs_and_sixty_steps(self):
        pairs = tuple((name, GREAT - 3 * place - 1) for place, name in enumerate(SIXTY))
        long = Long(GREAT, pairs)
        steps = [Step("touch" if place % 2 else "forget", name) for place, name in enumerate(SIXTY[:40])]
        rule = Rule([*steps, *[Step("cap", GREAT - 10 - place) for place in range(20)]])
        after = at_once(long.after, rule)
        # Twenty were forgotten ahead of the cap, and twenty stand in front.
        self.assertEqual((after.size, after["an"], after["ab"]), (GREAT - 29, 13, 19))
        self.assertEqual(at_once(long.lost, rule), 29)
        self.assertEqual(at_once(long.goes, rule, 0), 20)
        self.assertEqual(at_once(long.comes, rule, 20), 0)
        self.assertEqual(at_once(long.comes, rule, 19), long["ab"])
