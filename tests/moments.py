"""Calls that must be answered in a moment."""

from time import perf_counter

MOMENT = 2


def at_once(function, *values):
    """What the function returns; it must not take longer than a moment."""
    return within_seconds(MOMENT, function, *values)


def within_seconds(most, function, *values):
    """What the function returns; it must not take longer than so many seconds."""
    begun = perf_counter()
    result = function(*values)
    passed = perf_counter() - begun
    if passed > most:
        raise AssertionError(f"{function.__name__} took {passed:.1f} seconds")
    return result
