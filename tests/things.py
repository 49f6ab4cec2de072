"""Values of all kinds for arguments called `thing`, and texts of no row, step or rule."""

from touchcaps.rules import Rule
from touchcaps.steps import Step


def nested(thing, depth, kind):
    for _ in range(depth):
        thing = kind([thing])
    return thing


def other_things():
    """Things that are neither a NAME nor a ROW."""
    return [
        0, 1, -1, 10 ** 40, True, False, None, Step("touch", "a"), Rule(), Rule.of("touch a"),
        "", " ", "-", "A", "aB", "Ab", "a b", " a", "a ", "a\n", "\na", "a1", "1", "a-b", "a_b", "`", "{", "\u00e9",
        "\uff41", "\u0430", "a\u0301",
        [], ["a"], [["a"]], [()], ["a", "b"], ((),), (("a",),), (["a"],), ("a", ["b"]), ("a", ("b",)),
        ("a", "a"), ("a", "b", "a"), ("",), ("a", ""), ("A",), ("a", "B"), ("a b",), ("-",), (1,), ("a", 1),
        (True,), (None,), ("a", None), (Step("touch", "a"),), (Rule(),), ("a", Rule()),
        nested("a", 12, list), nested("a", 12, tuple), nested((), 11, tuple), nested([], 11, list),
    ]
