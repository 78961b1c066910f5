"""Trails: the pairs of lanes of two sides that have one cell, if not both sides have one cell alone.

A side is a tuple (guard, a, b, puts): each lane of the guard has the cell a * lane + b. It puts the integer
c * lane + d there if puts is the tuple (c, d); puts is None where no statement tells the integer.

A trail is a tuple (i, j, i_step, j_step, many): the pairs (i + i_step * k, j + j_step * k) for k from 0 on,
below many. They ascend.

Two lanes are together if they are in one wave, otherwise apart. By the wave 0 no two lanes are together, and no
lane is together with itself.
"""

from math import gcd

from stridelanes.guards import count_lanes, cut, inverse, met, nth_lane
from stridelanes.periods import count_marked, nth_marked

NO_PAIRS = (0, 0, 0, 0, 0)


def lanes_within(side, least, most):
    """Return the guard of the lanes of a side whose cells are from least to most."""
    guard, a, b, _ = side
    if a == 0:
        return guard if least <= b <= most else cut(guard, 0, 0)
    if a < 0:
        a, b, least, most = -a, -b, -most, -least
    return cut(guard, -((b - least) // a), (most - b) // a + 1)


def lanes_with_partner(one, other):
    """Return the guard of the lanes of one side whose cell some lane of the other side has, or None.

    The a of the other side is not 0.
    """
    guard, a, b, _ = one
    (low, high, step, rest), other_a, other_b, _ = other
    if low == high:
        return None
    ends = (other_a * low + other_b, other_a * (high - 1) + other_b)
    # The cells of all integers with the remainder rest by step come again with this period.
    period = abs(other_a) * step
    wanted = other_a * rest + other_b - b
    common = gcd(a, period)
    if wanted % common != 0:
        return None
    turns = period // common
    lane = wanted // common * inverse(a // common, turns) % turns
    return met(lanes_within(one, min(ends), max(ends)), (0, guard[1], turns, lane))


def trail_of(one, other):
    """Return the trail of the pairs of lanes of two sides that have one cell. Not both a are 0."""
    if other[1] == 0:
        j, i, j_step, i_step, many = trail_of(other, one)
        return (i, j, i_step, j_step, many)
    _, a, b, _ = one
    _, other_a, other_b, _ = other
    found = lanes_with_partner(one, other)
    if found is None:
        return NO_PAIRS
    i, i_step = nth_lane(found, 0), found[2]
    return (i, (a * i + b - other_b) // other_a, i_step, a * i_step // other_a, count_lanes(found))


def pair_at(trail, k):
    """Return the pair of a trail at the place k."""
    i, j, i_step, j_step, _ = trail
    return (i + i_step * k, j + j_step * k)


def are_together(pair, wave):
    """Tell whether the lanes of a pair are in one wave."""
    return pair[0] // wave == pair[1] // wave


def places_together(trail, wave):
    """Return the ascending list of the places at which a trail with different steps has lanes together.

    The lanes move away from each other, so they are less than a wave apart at few places.
    """
    i, j, i_step, j_step, many = trail
    gap, growth = j - i, j_step - i_step
    if growth < 0:
        gap, growth = -gap, -growth
    low = max(0, (-wave - gap) // growth + 1)
    high = min(many, -((gap - wave) // growth))
    return [k for k in range(low, high) if are_together(pair_at(trail, k), wave)]


def marks_apart(trail, wave):
    """Return (marks, period): the places at which a trail with equal steps has lanes apart."""
    i, j, step, _, _ = trail
    if abs(j - i) >= wave:
        return ([0], 1)
    period = wave // gcd(step, wave)
    # Only the place of i within its wave counts, and so small numbers do.
    place, turn, gap = i % wave, step % wave, j - i
    return ([k for k in range(period) if not 0 <= (place + turn * k) % wave + gap < wave], period)


def count_apart(trail, wave):
    """Return how many pairs of a trail have lanes apart."""
    _, _, i_step, j_step, many = trail
    if i_step != j_step:
        return many - len(places_together(trail, wave))
    marks, period = marks_apart(trail, wave)
    return count_marked(marks, period, many)


def nth_apart(trail, number, wave):
    """Return the pair with a number among the pairs of a trail that have lanes apart. It has so many."""
    _, _, i_step, j_step, _ = trail
    if i_step == j_step:
        marks, period = marks_apart(trail, wave)
        return pair_at(trail, nth_marked(marks, period, number))
    place = number
    for k in places_together(trail, wave):
        if k <= place:
            place += 1
    return pair_at(trail, place)


def agreeing(trail, puts, other_puts):
    """Return the trail of the pairs of a trail whose lanes put the same integer."""
    i, j, i_step, j_step, many = trail
    (c, d), (other_c, other_d) = puts, other_puts
    gap, growth = c * i + d - other_c * j - other_d, c * i_step - other_c * j_step
    if growth == 0:
        return trail if gap == 0 else NO_PAIRS
    k = -gap // growth
    if gap + growth * k != 0 or k < 0 or k >= many:
        return NO_PAIRS
    i, j = pair_at(trail, k)
    return (i, j, i_step, j_step, 1)
