"""Point 4: NAMEs and ROWs."""

import unittest

from tests.outside import all_rows
from tests.things import other_things
from touchcaps.errors import BadText
from touchcaps.rows import capped, forgotten, is_name, is_row, outside, row_of, row_text, touched

LETTERS = "abcdefghijklmnopqrstuvwxyz"
LONG = tuple(one + other for one in LETTERS for other in LETTERS)[:300]


class Told(unittest.TestCase):

    def test_names(self):
        for name in ["a", "z", "recent", "aa", LETTERS, LETTERS[::-1], "a" * 1000]:
            self.assertIs(is_name(name), True)

    def test_each_character_alone(self):
        names = [chr(code) for code in range(0x3000) if is_name(chr(code))]
        self.assertEqual("".join(names), LETTERS)

    def test_each_character_beside_a_letter(self):
        self.assertEqual("".join(chr(code) for code in range(0x3000) if is_name("a" + chr(code))), LETTERS)
        self.assertEqual("".join(chr(code) for code in range(0x3000) if is_name(chr(code) + "a")), LETTERS)

    def test_rows(self):
        for row in [(), ("a",), ("b", "a"), ("a", "aa", "aaa"), LONG, tuple("a" * many for many in range(1, 400))]:
            self.assertIs(is_row(row), True)

    def test_other_things(self):
        for thing in other_things():
            with self.subTest(repr(thing)):
                self.assertIs(is_name(thing), False)
                self.assertIs(is_row(thing), False)

    def test_a_name_is_no_row_and_a_row_is_no_name(self):
        self.assertIs(is_row("abc"), False)
        self.assertIs(is_row("a"), False)
        self.assertIs(is_name(()), False)
        self.assertIs(is_name(("a",)), False)

    def test_a_name_twice_far_apart(self):
        self.assertIs(is_row((*LONG, LONG[0])), False)
        self.assertIs(is_row((*LONG, LONG[-1])), False)


class Texts(unittest.TestCase):

    def test_texts(self):
        self.assertEqual(row_text(("a",)), "a")
        self.assertEqual(row_text(("b", "recent", "a")), "b recent a")
        self.assertEqual(row_text(()), "-")
        self.assertEqual(row_text([]), "-")

    def test_there_and_back(self):
        for row in [*all_rows(("a", "b", "cc")), LONG]:
            self.assertEqual(row_of(row_text(row)), row)
            self.assertIs(type(row_of(row_text(row))), tuple)

    def test_texts_of_no_row(self):
        texts = [
            "", " ", "  ", "--", "- ", " -", "a -", "- a", "-a", " a", "a ", "a  b", "a b ", " a b", "a a", "a b a",
            "a,b", "a, b", "A", "a B", "a 1", "1", "a\nb", "a\n", "\n", "a\tb", "a\u00a0b", "\u00e9", "()", "a;b", "a-b",
        ]
        for text in texts:
            with self.subTest(text), self.assertRaises(BadText) as caught:
                row_of(text)
            self.assertEqual(vars(caught.exception), {})


class Made(unittest.TestCase):

    def test_touched(self):
        self.assertEqual(touched((), "a"), ("a",))
        self.assertEqual(touched(("a",), "a"), ("a",))
        self.assertEqual(touched(("a", "b"), "b"), ("b", "a"))
        self.assertEqual(touched(("a", "ab", "b"), "ab"), ("ab", "a", "b"))
        self.assertEqual(touched(LONG, LONG[-1]), (LONG[-1], *LONG[:-1]))
        self.assertEqual(touched(LONG, "new"), ("new", *LONG))

    def test_forgotten(self):
        self.assertEqual(forgotten((), "a"), ())
        self.assertEqual(forgotten(("a",), "a"), ())
        self.assertEqual(forgotten(("ab", "a", "b"), "a"), ("ab", "b"))
        self.assertEqual(forgotten(("ab", "b"), "a"), ("ab", "b"))
        self.assertEqual(forgotten(LONG, LONG[150]), LONG[:150] + LONG[151:])

    def test_capped(self):
        row = ("c", "a", "d")
        self.assertEqual([capped(row, number) for number in range(5)], [(), ("c",), ("c", "a"), row, row])
        self.assertEqual(capped(row, 10 ** 40), row)
        self.assertEqual(capped((), 0), ())
        self.assertEqual(capped((), 10 ** 40), ())
        self.assertEqual(capped(LONG, 299), LONG[:299])

    def test_outside(self):
        row = ("d", "b", "ab", "a")
        self.assertEqual(outside(row, ()), row)
        self.assertEqual(outside(row, ("a", "d")), ("b", "ab"))
        self.assertEqual(outside(row, ("c", "e")), row)
        self.assertEqual(outside(row, ("a", "ab", "b", "d", "e")), ())
        self.assertEqual(outside((), ("a",)), ())
        self.assertEqual(outside(LONG, tuple(sorted(LONG[:200]))), LONG[200:])


class Arguments(unittest.TestCase):

    def test_lists_for_tuples(self):
        for made, row in [
            (touched(["c", "a"], "a"), ("a", "c")), (touched([], "a"), ("a",)), (forgotten(["c", "a"], "a"), ("c",)),
            (forgotten(["c"], "a"), ("c",)), (capped(["c", "a"], 1), ("c",)), (capped(["c", "a"], 5), ("c", "a")),
            (capped([], 0), ()), (outside(["c", "a"], ["a"]), ("c",)), (outside(["c"], []), ("c",)),
            (outside(("c", "a"), ["a"]), ("c",)),
        ]:
            self.assertEqual(made, row)
            self.assertIs(type(made), tuple)
        self.assertEqual(row_text(["c", "a"]), "c a")

    def test_what_is_handed_in_stays_as_it_was(self):
        row, names = ["c", "a", "b"], ["a", "b"]
        row_text(row), touched(row, "b"), forgotten(row, "a"), capped(row, 1), outside(row, names), is_row(row)
        self.assertEqual((row, names), (["c", "a", "b"], ["a", "b"]))

    def test_by_names(self):
        row = ("c", "a")
        self.assertEqual((is_name(thing="a"), is_row(thing=row)), (True, True))
        self.assertEqual((row_text(row=row), row_of(text="c a")), ("c a", row))
        self.assertEqual((touched(row=row, name="a"), forgotten(row=row, name="a")), (("a", "c"), ("c",)))
        self.assertEqual((capped(row=row, number=1), outside(row=row, names=("c",))), (("c",), ("a",)))
        self.assertEqual((touched(name="a", row=row), outside(names=("c",), row=row)), (("a", "c"), ("a",)))
