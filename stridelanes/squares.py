"""Squares: all pairs of a lane of one guard and a lane of another one.

Triangles: all pairs of two lanes of one guard, the lesser lane first.
"""

from math import gcd

from stridelanes.guards import count_lanes, cut, first_from, first_lanes, joined_rests, nth_lane
from stridelanes.searching import row_of
from stridelanes.trails import count_apart


def count_with_gap(one, other, gap, both, wave):
    """Return how many pairs (i, i + gap) of a square are in one wave. The lanes i have (step, rest) both."""
    step, rest = both
    i = first_from(max(one[0], other[0] - gap), step, rest)
    many = (min(one[1], other[1] - gap) - i + step - 1) // step
    if many <= 0:
        return 0
    return many - count_apart((i, i + gap, step, step, many), wave)


def count_together(one, other, wave):
    """Return how many pairs of a square are in one wave."""
    common = gcd(one[2], other[2])
    start = first_from(1 - wave, common, other[3] - one[3])
    step, rest = joined_rests(one[2], one[3], other[2], other[3] - start)
    # Joining the remainders once and turning them further with the gap is much faster than joining them each time.
    _, turn = joined_rests(one[2], 0, other[2], -common)
    total = 0
    for gap in range(start, wave, common):
        total += count_with_gap(one, other, gap, (step, rest), wave)
        rest = (rest + turn) % step
    return total


def count_square(one, other, wave):
    """Return how many pairs of a square are not in one wave."""
    return count_lanes(one) * count_lanes(other) - count_together(one, other, wave)


def nth_square(one, other, number, wave):
    """Return the pair with a number, ascending, of those pairs of a square that are not in one wave."""
    row = row_of(lambda rows: count_square(first_lanes(one, rows), other, wave), count_lanes(one), number)
    i = nth_lane(one, row)
    place = number - count_square(first_lanes(one, row), other, wave)
    low = i - i % wave
    if place >= count_lanes(cut(other, 0, low)):
        place += count_lanes(cut(other, low, low + wave))
    return (i, nth_lane(other, place))


def count_ahead_in_triangle(lanes, row):
    """Return how many pairs of a triangle of so many lanes begin with a lane ahead of the one with the number row."""
    return row * (2 * lanes - row - 1) // 2


def count_triangle(guard):
    """Return how many pairs a triangle has."""
    lanes = count_lanes(guard)
    return count_ahead_in_triangle(lanes, lanes)


def nth_triangle(guard, number):
    """Return the pair of a triangle with a number, ascending."""
    lanes = count_lanes(guard)
    row = row_of(lambda rows: count_ahead_in_triangle(lanes, rows), lanes, number)
    place = number - count_ahead_in_triangle(lanes, row)
    return (nth_lane(guard, row), nth_lane(guard, row + 1 + place))
