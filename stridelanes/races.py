"""Races: which lanes touch one cell in one phase, at least one of them to write."""

from stridelanes.checks import check_pair, check_wave
from stridelanes.doings import are_racing, count_between, doings, nth_between
from stridelanes.errors import InvalidNumber


def count_in_phase(one, other, wave):
    """Return how many races of two doings count, if they are in one phase."""
    return count_between(one, other, wave) if one.phase == other.phase else 0


def count_races(kernel, e, f, wave=1):
    """Return the number of races of two accesses that count."""
    check_pair(kernel, e, f)
    check_wave(wave)
    found = doings(kernel)
    return count_in_phase(found[e], found[f], wave)


def first_race(kernel, e, f, wave=1):
    """Return the least tuple (i, j) of a race of two accesses that counts, or None."""
    if count_races(kernel, e, f, wave) == 0:
        return None
    return nth_race(kernel, e, f, 0, wave)


def nth_race(kernel, e, f, number, wave=1):
    """Return the tuple (i, j) with a number, ascending, of the races of two accesses that count."""
    check_pair(kernel, e, f)
    if number < 0:
        raise InvalidNumber(number)
    check_wave(wave)
    found = doings(kernel)
    if number >= count_in_phase(found[e], found[f], wave):
        raise InvalidNumber(number)
    return nth_between(found[e], found[f], number, wave)


def is_race(kernel, e, f, i, j, wave=1):
    """Tell whether (e, f, i, j) is a race that counts."""
    check_pair(kernel, e, f)
    check_wave(wave)
    found = doings(kernel)
    return found[e].phase == found[f].phase and are_racing(found[e], found[f], i, j, wave)


def total_races(kernel, wave=1):
    """Return the number of all races that count."""
    check_wave(wave)
    found = doings(kernel)
    return sum([count_in_phase(one, other, wave) for one in found for other in found[one.number:]])
