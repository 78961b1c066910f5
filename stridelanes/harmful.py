"""Harmful races: those in which it matters which lane comes first."""

from stridelanes.checks import check_pair, check_wave
from stridelanes.doings import are_agreeing, count_harmful_between, doings, first_harmful_among
from stridelanes.races import is_race


def count_harmful(kernel, e, f, wave=1):
    """Return the number of harmful races of two accesses that count."""
    check_pair(kernel, e, f)
    check_wave(wave)
    found = doings(kernel)
    if found[e].phase != found[f].phase:
        return 0
    return count_harmful_between(found[e], found[f], wave)


def is_harmless(kernel, e, f, i, j):
    """Tell whether the race (e, f, i, j) is harmless; return None if it is no race."""
    if not is_race(kernel, e, f, i, j):
        return None
    found = doings(kernel)
    return are_agreeing(found[e], found[f], i, j)


def first_harmful_race(kernel, wave=1):
    """Return the least tuple (e, f, i, j) that is a harmful race that counts, or None."""
    check_wave(wave)
    found = doings(kernel)
    pairs = [(one, other) for one in found for other in found[one.number:] if one.phase == other.phase]
    return first_harmful_among(pairs, wave)
