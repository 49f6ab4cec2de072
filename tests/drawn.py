"""Drawn deeds for boards, told by texts, and what is shown by rules that such deeds make, seen from outside."""

from functools import cache

from tests.outside import Seen, rows_up_to_strangers
from touchcaps.rules import Rule
from touchcaps.steps import Step

NAMES = ("a", "b", "c")
VIEWS = ("late", "menu", "soon")
PARTS = [*[f"{kind} {name}" for kind in ("touch", "forget") for name in NAMES], "cap 1", "cap 2", "cap 3"]
ROWS = rows_up_to_strangers(NAMES, ("u", "v", "w", "x"))


@cache
def seen(text):
    return Seen(text, ROWS)


def within(text, other):
    return seen(text).within(seen(other))


def alike(text, other):
    return seen(text).alike(seen(other))


def compared(text, other):
    if alike(text, other):
        return "alike"
    found = (within(text, other), within(other, text))
    return {(True, True): "shuffled", (True, False): "within", (False, True): "around"}.get(found, "neither")


def drawn_text(chance):
    return "; ".join(chance.choices(PARTS, k=chance.randint(0, 3))) or "-"


def drawn_deed(chance):
    """A deed, told by its kind and texts, as in an attempt."""
    kind = chance.choice(["use", "use", "use", "forget", "do", "cut", "set", "set", "set", "leave", "step", "frame", "frame", "lift"])
    name = chance.choice(VIEWS)
    if kind in ("use", "forget"):
        return kind, chance.choice([*NAMES, "u", "v"])
    if kind == "do":
        return kind, drawn_text(chance)
    if kind == "cut":
        return kind, chance.choice([None, None, 1, 2, 3, 4, 5])
    if kind == "set":
        return kind, name, drawn_text(chance)
    if kind == "step":
        return kind, name, chance.choice(PARTS)
    if kind == "frame":
        low = chance.choice([None, "cap 1", "forget a; cap 1", "touch a; cap 1; forget a"])
        return kind, name, low, chance.choice([None, "cap 3", "-", "touch a; touch b; touch c"])
    return kind, name


def real(deed):
    """The same deed with Rules and Steps for texts."""
    kind, *values = deed
    if kind == "do":
        return kind, Rule.of(values[0])
    if kind == "set":
        return kind, values[0], Rule.of(values[1])
    if kind == "step":
        return kind, values[0], Step.of(values[1])
    if kind == "frame":
        return (kind, values[0], *[None if text is None else Rule.of(text) for text in values[1:]])
    return deed
