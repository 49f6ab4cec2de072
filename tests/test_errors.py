"""The error classes of point 17, and the values that errors keep (point 2)."""

import unittest

from touchcaps import errors

LISTED = {
    LookupError: {
        "NoPlace": ("place",), "NoName": ("name",), "NoView": ("name",), "NoFrame": ("name",),
        "NoNumber": ("number",), "NotUsed": ("name",),
    },
    ValueError: {
        "BadText": (), "BadStep": ("given",), "BadPlace": ("name",), "Outside": ("name",), "BadLine": ("number",),
        "Stopped": ("number", "raised", "value"), "Apart": ("one", "other"), "OtherNames": ("name",),
        "NotBetween": ("strange",), "Endless": (), "NotAhead": (), "NotJoined": (), "Unfit": (), "Known": (),
    },
}
ALL = [(base, name, kept) for base, own in LISTED.items() for name, kept in own.items()]


class Errors(unittest.TestCase):

    def test_each_is_there_under_its_built_in_class_alone(self):
        for base, name, _ in ALL:
            with self.subTest(name):
                self.assertEqual(vars(errors)[name].__bases__, (base,))
                self.assertEqual(vars(errors)[name].__module__, "touchcaps.errors")

    def test_values_are_kept_by_position(self):
        for _, name, kept in ALL:
            with self.subTest(name):
                values = [f"value {place}" for place in range(len(kept))]
                self.assertEqual(vars(vars(errors)[name](*values)), dict(zip(kept, values)))

    def test_values_are_kept_by_name(self):
        for _, name, kept in ALL:
            with self.subTest(name):
                values = {own: place for place, own in enumerate(kept)}
                self.assertEqual(vars(vars(errors)[name](**values)), values)

    def test_kept_values_have_tuples_for_lists(self):
        for _, name, kept in ALL:
            with self.subTest(name):
                values = [["a", ([1], "b", [[place]])] for place in range(len(kept))]
                expected = {own: ("a", ((1,), "b", ((place,),))) for place, own in enumerate(kept)}
                self.assertEqual(vars(vars(errors)[name](*values)), expected)

    def test_too_few_or_too_many_values_are_refused(self):
        for _, name, kept in ALL:
            if kept:
                with self.subTest(name), self.assertRaises(TypeError):
                    vars(errors)[name](*[0] * (len(kept) - 1))
                with self.subTest(name), self.assertRaises(TypeError):
                    vars(errors)[name](*[0] * (len(kept) + 1))
