"""Races: which lanes touch one cell in one phase, at least one of them to write."""

from stridelanes.checks import check_wave
from stridelanes.choosing import are_rivals_in_phase, two_doings
from stridelanes.doings import are_racing, count_between, nth_between, rivals_in_phases
from stridelanes.errors import InvalidNumber


def count_races(kernel, e, f, wave=1):
    """Return the number of races of two accesses that count."""
    one, other = two_doings(kernel, e, f)
    check_wave(wave)
    return count_between(one, other, wave) if are_rivals_in_phase(one, other) else 0


def first_race(kernel, e, f, wave=1):
    """Return the least tuple (i, j) of a race of two accesses that counts, or None."""
    one, other = two_doings(kernel, e, f)
    check_wave(wave)
    if not are_rivals_in_phase(one, other) or count_between(one, other, wave) == 0:
        return None
    return nth_between(one, other, 0, wave)


def nth_race(kernel, e, f, number, wave=1):
    """Return the tuple (i, j) with a number, ascending, of the races of two accesses that count."""
    one, other = two_doings(kernel, e, f)
    if number < 0:
        raise InvalidNumber(number)
    check_wave(wave)
    if not are_rivals_in_phase(one, other) or number >= count_between(one, other, wave):
        raise InvalidNumber(number)
    return nth_between(one, other, number, wave)


def is_race(kernel, e, f, i, j, wave=1):
    """Tell whether (e, f, i, j) is a race that counts."""
    one, other = two_doings(kernel, e, f)
    check_wave(wave)
    return are_rivals_in_phase(one, other) and are_racing(one, other, i, j, wave)


def total_races(kernel, wave=1):
    """Return the number of all races that count."""
    check_wave(wave)
    rivals = rivals_in_phases(kernel.statements, kernel.barriers)
    return sum([count_between(one, other, wave) for one, other in rivals])
