"""Guards: which lanes do a statement.

A guard is a tuple (low, high, step, rest): the lanes from low on, below high,
whose remainder by step is rest.
"""

from math import gcd

from stridelanes.errors import InvalidGuard, InvalidNumber


def is_guard(guard):
    """Tell whether a tuple of four integers is a guard."""
    low, high, step, rest = guard
    return 0 <= low <= high and 0 <= rest < step


def check_guard(guard):
    """Raise InvalidGuard if a tuple of four integers is no guard."""
    if not is_guard(guard):
        raise InvalidGuard(guard)


def first_from(low, step, rest):
    """Return the least integer from low on whose remainder by step is rest."""
    return low + (rest - low) % step


def count_lanes(guard):
    """Return the number of lanes of a guard."""
    check_guard(guard)
    low, high, step, rest = guard
    first = first_from(low, step, rest)
    return (high - first + step - 1) // step


def nth_lane(guard, number):
    """Return the lane of a guard with a number, ascending from 0."""
    many = count_lanes(guard)
    if number < 0 or number >= many:
        raise InvalidNumber(number)
    low, _, step, rest = guard
    return first_from(low, step, rest) + number * step


def has_lane(guard, lane):
    """Tell whether a lane is one of a guard."""
    check_guard(guard)
    low, high, step, rest = guard
    return low <= lane < high and lane % step == rest


def inverse(number, modulus):
    """Return the integer from 0 on, below modulus, that gives 1 modulo modulus when multiplied by number.

    The two have no common divisor but 1. By the modulus 1 the answer is 0.
    """
    dividend, divisor = modulus, number % modulus
    before, factor = 0, 1
    while divisor > 0:
        times = dividend // divisor
        dividend, divisor = divisor, dividend - times * divisor
        before, factor = factor, before - times * factor
    return before % modulus


def joined_rests(step, rest, other_step, other_rest):
    """Return (step, rest) of the integers with both remainders, or None if there are none."""
    common = gcd(step, other_step)
    difference = other_rest - rest
    if difference % common != 0:
        return None
    turns = other_step // common
    times = difference // common * inverse(step // common, turns) % turns
    return (step * turns, rest + step * times)


def met(guard, other):
    """Return the guard of the lanes that two guards both have, or None if no lane is in both."""
    check_guard(guard)
    check_guard(other)
    low, high = max(guard[0], other[0]), min(guard[1], other[1])
    joined = joined_rests(guard[2], guard[3], other[2], other[3])
    if joined is None:
        return None
    step, rest = joined
    if first_from(low, step, rest) >= high:
        return None
    return (low, high, step, rest)


def cut(guard, low, high):
    """Return the guard of those lanes of a guard that are at least low and less than high."""
    low = max(low, guard[0])
    return (low, max(low, min(high, guard[1])), guard[2], guard[3])


def first_lanes(guard, many):
    """Return the guard of the first lanes of a guard: so many, if it has them."""
    low, _, step, rest = guard
    return cut(guard, low, first_from(low, step, rest) + many * step)
