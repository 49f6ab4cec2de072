"""Point 12: what several devices make of one list, beside all orders of their touches."""

import random
import unittest
from itertools import product

from tests.moments import at_once
from tests.outside import all_rows
from tests.things import other_things
from touchcaps.devices import (
    all_used, cap_for, how_many_joined, is_joined, is_order, joined_by, nth_joined, order_to, place_range, rank_joined,
    stands, sure_pairs, surely_ahead, used,
)
from touchcaps.errors import NoNumber, NotJoined, NotUsed

GREAT = 10 ** 40
CAPS = (None, 1, 2, 3, 4, 5, 6, GREAT)
DEVICES = [
    ((),), ((), ()), (("a",),), (("a", "b", "c"),), (("a",), ()), ((), (), ("b", "a")), (("a", "b"), ("b", "c")),
    (("a", "b"), ("b", "a")), (("a", "b"), ("a", "b")), (("a", "b"), ("c", "d")), (("a", "b", "c"), ("c", "b", "a")),
    (("a", "b", "c"), ("a", "d")), (("b",), ("b",), ("b",)), (("a", "b"), ("b", "c"), ("c", "a")),
    (("a", "b", "c"), ("d",), ("c", "e")), (("a", "c"), ("b", "c"), ("c", "d")), (("a",), ("b",), ("c",), ("d",)),
    (("c", "a", "b"), ("b", "d", "c"), ("d",)), (("a", "b"), (), ("a", "c"), ("b",)),
]
ROWS = [(), ("x",), ("a",), ("x", "b", "y", "a"), ("d", "c", "b", "a"), ("x", "y", "z")]


def orders_of(counts):
    """All orders in which each number comes so many times as told."""
    if not any(counts):
        return [()]
    return [
        (number, *rest) for number, many in enumerate(counts) if many
        for rest in orders_of([*counts[:number], many - 1, *counts[number + 1:]])
    ]


def joined(devices, row, order, cap):
    """The list behind all touches, one behind another."""
    left = [list(own) for own in devices]
    for number in order:
        name = left[number].pop()
        row = (name, *[other for other in row if other != name])
        row = row if cap is None else row[:cap]
    return row


def all_joined(devices, row, cap):
    return sorted({joined(devices, row, order, cap) for order in orders_of([len(own) for own in devices])})


class Joined(unittest.TestCase):

    def test_all_orders(self):
        for devices in DEVICES:
            for order in orders_of([len(own) for own in devices]):
                self.assertIs(is_order(devices, order), True)
                self.assertIs(is_order(devices, list(order)), False)
                for row, cap in [((), None), (ROWS[3], 2), (ROWS[4], None), (ROWS[5], 1)]:
                    self.assertEqual(joined_by(devices, row, order, cap=cap), joined(devices, row, order, cap))

    def test_all_joined_rows(self):
        for devices in DEVICES:
            for row, cap in product(ROWS, CAPS):
                found = all_joined(devices, row, cap)
                self.assertEqual(how_many_joined(devices, row, cap=cap), len(found), (devices, row, cap))
                told = [nth_joined(devices, row, number, cap=cap) for number in range(len(found))]
                self.assertEqual(told, found, (devices, row, cap))
                self.assertEqual([rank_joined(devices, row, own, cap=cap) for own in found], list(range(len(found))))
                for own in found:
                    self.leads(devices, row, own, cap)

    def leads(self, devices, row, own, cap):
        order = order_to(devices, row, own, cap=cap)
        self.assertIs(is_order(devices, order), True)
        self.assertEqual(joined(devices, row, order, cap), own)
        self.assertIs(is_joined(devices, row, own, cap=cap), True)

    def test_rows_that_are_not_joined(self):
        tried = all_rows(("a", "b", "c", "x"))
        for devices in DEVICES[::2]:
            for row, cap in [((), None), (("x", "b"), None), (("x", "b"), 2), (("x",), 1), (("x",), GREAT)]:
                found = all_joined(devices, row, cap)
                for own in tried:
                    if own in found:
                        continue
                    self.assertIsNone(order_to(devices, row, own, cap=cap))
                    self.assertIs(is_joined(devices, row, own, cap=cap), False)
                    with self.assertRaises(NotJoined) as caught:
                        rank_joined(devices, row, own, cap=cap)
                    self.assertEqual(vars(caught.exception), {})

    def test_no_number(self):
        for devices, row, cap in [(DEVICES[6], ("x",), None), (DEVICES[0], (), None), (DEVICES[8], (), 1)]:
            every = how_many_joined(devices, row, cap=cap)
            for number in (-1, -every, every, every + 1, GREAT, -GREAT):
                with self.assertRaises(NoNumber) as caught:
                    nth_joined(devices, row, number, cap=cap)
                self.assertEqual(vars(caught.exception), {"number": number})

    def test_without_any_touch_nothing_is_cut(self):
        for devices, cap in product([((),), ((), ()), ((), (), (), ())], CAPS):
            row = ("x", "y", "z")
            self.assertEqual(joined_by(devices, row, (), cap=cap), row)
            self.assertEqual(nth_joined(devices, row, 0, cap=cap), row)
            self.assertEqual((how_many_joined(devices, row, cap=cap), order_to(devices, row, row, cap=cap)), (1, ()))
            self.assertIs(is_joined(devices, row, row[:1], cap=cap), False)
            self.assertEqual([stands(devices, row, name, cap=cap) for name in "xza"], ["yes", "yes", "no"])
            self.assertEqual([cap_for(devices, row, name) for name in "xza"], [1, 1, None])

    def test_things(self):
        things = [
            *other_things(), (0, 0, 1), (1, 0, 0), (0, True, 0, 1), (False, 0, 1, 1), (0, 1, 2), (0, 0, 1, 1, 1), (-1, 0, 1, 1),
            (0, 0, 1, 2), ("0", 0, 1, 1), ((0,), (0,), (1,), (1,)), (None,) * 4, [0, 0, 1, 1], (0, 0, 1, 10 ** 40),
        ]
        for thing in things:
            self.assertIs(is_order(DEVICES[6], thing), False, thing)
            self.assertIs(is_joined(DEVICES[6], (), thing), False, thing)
            self.assertIs(is_joined(DEVICES[6], (), thing, cap=2), False, thing)
        self.assertIs(is_order(((), ()), ()), True)
        self.assertIs(is_order(((), ()), []), False)
        self.assertIs(is_joined(DEVICES[6], (), ["a", "b", "c"]), False)
        self.assertIs(is_joined(((),), (), ()), True)
        self.assertIs(is_joined(((),), [], []), False)

    def test_used(self):
        chance = random.Random(137)
        for _ in range(200):
            names = chance.choices("abcde", k=chance.randint(0, 9))
            row = ()
            for name in names:
                row = (name, *[other for other in row if other != name])
            self.assertEqual(used(tuple(names)), row)
            self.assertEqual(used(names), row)
        self.assertEqual(at_once(used, tuple("abc" * 30000)), ("c", "b", "a"))

    def test_all_used(self):
        self.assertEqual(all_used((("c", "a"), ("b", "a"), ())), ("a", "b", "c"))
        self.assertEqual((all_used(((),)), all_used((("z",),))), ((), ("z",)))


class Sure(unittest.TestCase):

    def test_what_is_sure(self):
        for devices in DEVICES:
            found = all_joined(devices, ("x",), None)
            names = sorted({name for own in devices for name in own})
            self.assertEqual(all_used(devices), tuple(names))
            pairs = [
                (one, other) for one in names for other in names
                if one != other and all(own.index(one) < own.index(other) for own in found)
            ]
            self.assertEqual(sure_pairs(devices), tuple(pairs))
            for one, other in product(names, repeat=2):
                self.assertIs(surely_ahead(devices, one, other), (one, other) in pairs)
            for name in names:
                places = [own.index(name) for own in found]
                self.assertEqual(place_range(devices, name), (min(places), max(places)), (devices, name))

    def test_who_stands(self):
        for devices, row in product(DEVICES, ROWS):
            for name in "abcdxyzq":
                answers = {}
                for cap in CAPS:
                    shown = {name in own for own in all_joined(devices, row, cap)}
                    answers[cap] = "open" if len(shown) == 2 else "yes" if True in shown else "no"
                    self.assertEqual(stands(devices, row, name, cap=cap), answers[cap], (devices, row, name, cap))
                enough = [cap for cap in range(1, 10) if {name in own for own in all_joined(devices, row, cap)} == {True}]
                self.assertEqual(cap_for(devices, row, name), min(enough, default=None), (devices, row, name))

    def test_not_used(self):
        devices = (("a", "b"), ("c",), ())
        for one, other, name in [("x", "a", "x"), ("a", "x", "x"), ("y", "x", "y"), ("x", "x", "x")]:
            with self.assertRaises(NotUsed) as caught:
                surely_ahead(devices, one, other)
            self.assertEqual(vars(caught.exception), {"name": name})
        for own in (devices, ((),)):
            with self.assertRaises(NotUsed) as caught:
                place_range(own, "x")
            self.assertEqual(vars(caught.exception), {"name": "x"})


class Greatest(unittest.TestCase):

    def devices(self, sizes, shared):
        chance = random.Random(139)
        names = [chr(97 + at // 26) + chr(97 + at % 26) for at in range(max(sizes) if shared else sum(sizes))]
        found = []
        for size in sizes:
            own = chance.sample(names, size)
            found.append(tuple(own))
            names = names if shared else [name for name in names if name not in own]
        return tuple(found)

    def test_the_product_three_thousand(self):
        row = tuple("x" + chr(97 + at // 26) + chr(97 + at % 26) for at in range(60))
        for sizes, shared in product([(6, 6, 6, 7), (13, 13, 14), (53, 54), (299,)], (False, True)):
            devices = self.devices(sizes, shared)
            for cap in (None, 1, 9, 60):
                every = at_once(lambda: how_many_joined(devices, row, cap=cap))
                numbers = [0, every // 3, every - 1]
                found = [at_once(lambda: nth_joined(devices, row, number, cap=cap)) for number in numbers]
                self.assertEqual(found, sorted(found))
                self.assertEqual([at_once(lambda: rank_joined(devices, row, own, cap=cap)) for own in found], numbers)
                for own in found:
                    order = at_once(lambda: order_to(devices, row, own, cap=cap))
                    self.assertEqual(at_once(lambda: joined_by(devices, row, order, cap=cap)), own)
            pairs = at_once(sure_pairs, devices)
            self.assertIs(surely_ahead(devices, devices[0][0], devices[0][-1]), (devices[0][0], devices[0][-1]) in pairs)
            at_once(lambda: place_range(devices, devices[0][-1]))
            at_once(lambda: stands(devices, row, devices[0][-1], cap=9))
            self.assertEqual(at_once(lambda: cap_for(devices, row, row[-1])), len(all_used(devices)) + 60)

    def test_counted_in_another_way(self):
        # Of devices that share no name each order of their numbers leads to another ROW.
        every = 1
        for at in range(53):
            every = every * (54 + 1 + at) // (at + 1)
        self.assertEqual(how_many_joined(self.devices((53, 54), False), ()), every)
        self.assertEqual(how_many_joined((tuple("abcdef"),) * 4, ()), 1)
