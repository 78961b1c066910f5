"""Harmful races: those in which it matters which lane comes first."""

from stridelanes.checks import check_wave
from stridelanes.choosing import are_rivals_in_phase, two_doings
from stridelanes.doings import are_agreeing, are_racing, count_harmful_between, first_harmful_among, rivals_in_phases


def count_harmful(kernel, e, f, wave=1):
    """Return the number of harmful races of two accesses that count."""
    one, other = two_doings(kernel, e, f)
    check_wave(wave)
    return count_harmful_between(one, other, wave) if are_rivals_in_phase(one, other) else 0


def is_harmless(kernel, e, f, i, j):
    """Tell whether the race (e, f, i, j) is harmless; return None if it is no race."""
    one, other = two_doings(kernel, e, f)
    if not are_rivals_in_phase(one, other) or not are_racing(one, other, i, j, 1):
        return None
    return are_agreeing(one, other, i, j)


def first_harmful_race(kernel, wave=1):
    """Return the least tuple (e, f, i, j) that is a harmful race that counts, or None."""
    check_wave(wave)
    return first_harmful_among(rivals_in_phases(kernel.statements, kernel.barriers), wave)
