"""Barriers: which statements need one between them, and the fewest that are enough."""

from stridelanes.checks import check_two_statements, check_wave
from stridelanes.choosing import rivals_of_two
from stridelanes.doings import (doings_by_statements, first_harmful_among, is_any_harmful, rivals_between,
                                rivals_within)


def pairs_to_part(kernel, wave):
    """Return the ascending list of all pairs (u, v) of statements that need parting."""
    groups = doings_by_statements(kernel.statements)
    many = len(groups)
    return [(u, v) for u in range(many) for v in range(u + 1, many)
            if is_any_harmful(rivals_between(groups[u], groups[v]), wave)]


def pairs_that_end_first(pairs):
    """Return a list of pairs (u, v), each the one with the least v of those that no earlier one's v parts."""
    chosen = []
    last = 0
    for v, u in sorted([(v, u) for u, v in pairs]):
        if u >= last:
            chosen.append((u, v))
            last = v
    return chosen


def is_parted(pair, barriers):
    """Tell whether some barrier parts a pair of statements."""
    return any([pair[0] < barrier <= pair[1] for barrier in barriers])


def needs_parting(kernel, u, v, wave=1):
    """Tell whether two statements need parting, in whatever phases they are."""
    check_two_statements(kernel, u, v)
    check_wave(wave)
    return is_any_harmful(rivals_of_two(kernel, u, v), wave)


def stuck_race(kernel, wave=1):
    """Return the least harmful race (e, f, i, j) that counts within one statement, or None."""
    check_wave(wave)
    return first_harmful_among(rivals_within(doings_by_statements(kernel.statements)), wave)


def parting_pairs(kernel, wave=1):
    """Return as many pairs that need parting as the fewest barriers, no two parted by one; None if a race is stuck."""
    if stuck_race(kernel, wave) is not None:
        return None
    return pairs_that_end_first(pairs_to_part(kernel, wave))


def fewest_barriers(kernel, wave=1):
    """Return the list of the fewest barriers, as far behind as they may stand; None if a race is stuck."""
    pairs = parting_pairs(kernel, wave)
    if pairs is None:
        return None
    return [v for _, v in pairs]


def needless_barriers(kernel, wave=1):
    """Return the list of the barriers of a kernel without which all is parted that it parts."""
    check_wave(wave)
    pairs, barriers = pairs_to_part(kernel, wave), kernel.barriers
    needless = []
    for barrier in barriers:
        others = [other for other in barriers if other != barrier]
        if all([is_parted(pair, others) for pair in pairs if is_parted(pair, [barrier])]):
            needless.append(barrier)
    return needless
