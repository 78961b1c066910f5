"""Trails: the pairs of lanes of two sides that have one cell, if not both sides have one cell alone.

A side is a tuple (guard, a, b, puts): each lane of the guard has the cell a * lane + b. It puts the integer
c * lane + d there if puts is the tuple (c, d); puts is None where no statement tells the integer.

A trail is a tuple (i, j, i_step, j_step, many): the pairs (i + i_step * k, j + j_step * k) for k from 0 on,
below many. They ascend.

Two lanes are together if they are in one wave, otherwise apart. By the wave 0 no two lanes are together, and no
lane is together with itself.
"""

from math import gcd

from stridelanes.guards import first_from, inverse
from stridelanes.periods import count_marked, nth_marked

NO_PAIRS = (0, 0, 0, 0, 0)


def lanes_in_row(guard):
    """Return (first, many): the lanes of a guard are first + step * k for k from 0 on, below many."""
    low, high, step, rest = guard
    first = first_from(low, step, rest)
    return (first, (high - first + step - 1) // step)


def places_between(start, growth, many):
    """Return (low, high): for k from low on, below high, start + growth * k is from 0 on, below many.

    The growth is not 0.
    """
    if growth < 0:
        start, growth = many - 1 - start, -growth
    return (-(start // growth), (many - 1 - start) // growth + 1)


def trail_of(one, other):
    """Return the trail of the pairs of lanes of two sides that have one cell. Not both a are 0."""
    guard, a, b, _ = one
    other_guard, other_a, other_b, _ = other
    step, other_step = guard[2], other_guard[2]
    (first, many), (other_first, other_many) = lanes_in_row(guard), lanes_in_row(other_guard)
    # The lanes first + step * x and other_first + other_step * y have one cell where move * x - other_move * y = gap.
    move, other_move = a * step, other_a * other_step
    gap = other_a * other_first + other_b - a * first - b
    common = gcd(move, other_move)
    if gap % common != 0:
        return NO_PAIRS
    if other_move == 0:
        x = gap // move
        return (first + step * x, other_first, 0, other_step, other_many) if 0 <= x < many else NO_PAIRS
    x_step = abs(other_move) // common
    x = gap // common * inverse(move // common, x_step) % x_step
    y, y_step = (move * x - gap) // other_move, move * x_step // other_move
    low, high = 0, (many - 1 - x) // x_step + 1
    if y_step != 0:
        least, end = places_between(y, y_step, other_many)
        low, high = max(low, least), min(high, end)
    elif y < 0 or y >= other_many:
        return NO_PAIRS
    i, i_step = first + step * (x + x_step * low), step * x_step
    j, j_step = other_first + other_step * (y + y_step * low), other_step * y_step
    return (i, j, i_step, j_step, high - low) if low < high else NO_PAIRS


def pair_at(trail, k):
    """Return the pair of a trail at the place k."""
    i, j, i_step, j_step, _ = trail
    return (i + i_step * k, j + j_step * k)


def are_together(pair, wave):
    """Tell whether the lanes of a pair are in one wave."""
    return pair[0] // wave == pair[1] // wave


def places_together(trail, wave):
    """Return the ascending list of the places at which a trail with different steps has lanes together.

    The lanes move away from each other, so they are less than a wave apart at few places.
    """
    i, j, i_step, j_step, many = trail
    gap, growth = j - i, j_step - i_step
    if growth < 0:
        gap, growth = -gap, -growth
    low = max(0, (-wave - gap) // growth + 1)
    high = min(many, -((gap - wave) // growth))
    return [k for k in range(low, high) if are_together(pair_at(trail, k), wave)]


def marks_apart(trail, wave):
    """Return (marks, period): the places at which a trail with equal steps has lanes apart.

    Places behind the end of the trail count for nothing.
    """
    i, j, step, _, many = trail
    if abs(j - i) >= wave:
        return ([0], 1)
    period = wave // gcd(step, wave)
    # Only the place of i within its wave counts, and so small numbers do.
    place, turn, gap = i % wave, step % wave, j - i
    places = range(min(period, many))
    return ([k for k in places if not 0 <= (place + turn * k) % wave + gap < wave], period)


def count_apart(trail, wave):
    """Return how many pairs of a trail have lanes apart."""
    _, _, i_step, j_step, many = trail
    if wave == 0 or many == 0:
        return many
    if i_step != j_step:
        return many - len(places_together(trail, wave))
    marks, period = marks_apart(trail, wave)
    return count_marked(marks, period, many)


def nth_apart(trail, number, wave):
    """Return the pair with a number among the pairs of a trail that have lanes apart. It has so many."""
    _, _, i_step, j_step, _ = trail
    if i_step == j_step:
        marks, period = marks_apart(trail, wave)
        return pair_at(trail, nth_marked(marks, period, number))
    place = number
    for k in places_together(trail, wave):
        if k <= place:
            place += 1
    return pair_at(trail, place)


def agreeing(trail, puts, other_puts):
    """Return the trail of the pairs of a trail whose lanes put the same integer."""
    i, j, i_step, j_step, many = trail
    (c, d), (other_c, other_d) = puts, other_puts
    gap, growth = c * i + d - other_c * j - other_d, c * i_step - other_c * j_step
    if growth == 0:
        return trail if gap == 0 else NO_PAIRS
    k = -gap // growth
    if gap + growth * k != 0 or k < 0 or k >= many:
        return NO_PAIRS
    i, j = pair_at(trail, k)
    return (i, j, i_step, j_step, 1)
