"""Waves: how many of them a statement needs."""

from math import gcd

from stridelanes.checks import check_number_of_wave, check_statement_number, check_wave
from stridelanes.guards import count_lanes, cut, has_lane, nth_lane


def lanes_of_wave(guard, wave, number):
    """Return the guard of the lanes of a guard in the wave with a number."""
    return cut(guard, wave * number, wave * number + wave)


def waves_with_lanes(guard, wave):
    """Return how many waves have a lane of a guard."""
    many = count_lanes(guard)
    if many == 0 or guard[2] >= wave:
        return many
    return nth_lane(guard, many - 1) // wave - nth_lane(guard, 0) // wave + 1


def waves_by_lanes(guard, wave):
    """Return a list of tuples (lanes, waves): so many waves have so many lanes of a guard.

    Each wave with a lane counts in one tuple. Several tuples may tell of the same number of lanes.
    """
    low, high, step, _ = guard
    if step >= wave:
        return [(1, count_lanes(guard))]
    if low == high:
        return []
    first, last = low // wave, (high - 1) // wave
    ends = [first] if first == last else [first, last]
    found = [(count_lanes(lanes_of_wave(guard, wave, number)), 1) for number in ends]
    # Between the ends the guard cuts off nothing, and so the numbers of lanes come again with this period.
    period, between = step // gcd(step, wave), last - first - 1
    for turn in range(min(period, between)):
        lanes = count_lanes(lanes_of_wave(guard, wave, first + 1 + turn))
        found.append((lanes, (between - turn + period - 1) // period))
    return found


def count_waves(kernel, statement, wave):
    """Return the number of waves with a lane of the guard of a statement."""
    check_statement_number(kernel, statement)
    check_wave(wave)
    return waves_with_lanes(kernel.statements[statement][1], wave)


def full_waves(kernel, statement, wave):
    """Return the number of waves all of whose lanes are lanes of the guard of a statement."""
    check_statement_number(kernel, statement)
    check_wave(wave)
    guard, lanes = kernel.statements[statement][1], kernel.lanes
    low, high, step, _ = guard
    if wave == 1:
        return count_lanes(guard)
    if step > 1:
        # Only a wave of one lane can be full; the last one may be such a wave.
        return 1 if (lanes - 1) % wave == 0 and has_lane(guard, lanes - 1) else 0
    behind = (high + wave - 1) // wave if high == lanes else high // wave
    return max(0, behind - (low + wave - 1) // wave)


def lanes_in_wave(kernel, statement, wave, number):
    """Return the number of the lanes of the guard of a statement in the wave with a number."""
    check_statement_number(kernel, statement)
    check_wave(wave)
    check_number_of_wave(kernel, wave, number)
    return count_lanes(lanes_of_wave(kernel.statements[statement][1], wave, number))
