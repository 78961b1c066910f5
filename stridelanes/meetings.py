"""Meetings: pairs of lanes of two sides that have one cell and are not in one wave.

Sides and the wave 0 are those of trails. A meeting is harmless if both sides put the same integer there,
otherwise harmful.
"""

from stridelanes.guards import count_lanes, cut, first_lanes, nth_lane
from stridelanes.searching import row_of
from stridelanes.squares import count_square, nth_square
from stridelanes.trails import agreeing, count_apart, nth_apart, trail_of


def are_flat(one, other):
    """Tell whether of both sides all lanes have one cell."""
    return one[1] == 0 and other[1] == 0


def count_meetings(one, other, wave):
    """Return how many meetings two sides have."""
    if are_flat(one, other):
        return count_square(one[0], other[0], wave) if one[2] == other[2] else 0
    return count_apart(trail_of(one, other), wave)


def nth_meeting(one, other, number, wave):
    """Return the meeting (i, j) of two sides with a number, ascending. There are so many."""
    if are_flat(one, other):
        return nth_square(one[0], other[0], number, wave)
    return nth_apart(trail_of(one, other), number, wave)


def count_harmless_flat_meetings(one, other, wave):
    """Return how many harmless meetings two flat sides have."""
    guard, _, b, puts = one
    other_guard, _, other_b, other_puts = other
    if b != other_b or puts is None or other_puts is None:
        return 0
    # All lanes have one cell, so what they put decides alone: it meets just as cells do.
    (c, d), (other_c, other_d) = puts, other_puts
    return count_meetings((guard, c, d, None), (other_guard, other_c, other_d, None), wave)


def count_harmful_by_waves(one, other, waves):
    """Return for each wave of a list how many harmful meetings two sides have."""
    if are_flat(one, other):
        return [count_meetings(one, other, wave) - count_harmless_flat_meetings(one, other, wave) for wave in waves]
    trail = trail_of(one, other)
    found = [count_apart(trail, wave) for wave in waves]
    if one[3] is None or other[3] is None or trail[4] == 0:
        return found
    harmless = agreeing(trail, one[3], other[3])
    return [many - count_apart(harmless, wave) for many, wave in zip(found, waves)]


def count_harmful_meetings(one, other, wave):
    """Return how many harmful meetings two sides have."""
    return count_harmful_by_waves(one, other, [wave])[0]


def with_guard(side, guard):
    """Return a side with another guard."""
    _, a, b, puts = side
    return (guard, a, b, puts)


def first_harmful_meeting(one, other, wave):
    """Return the least harmful meeting (i, j) of two sides. There is one."""
    guard, other_guard = one[0], other[0]

    def count_ahead_of_row(row):
        """Return how many harmful meetings the lanes i ahead of the one with the number row have."""
        return count_harmful_meetings(with_guard(one, first_lanes(guard, row)), other, wave)

    i = nth_lane(guard, row_of(count_ahead_of_row, count_lanes(guard), 0))
    alone = with_guard(one, cut(guard, i, i + 1))

    def count_ahead_in_row(place):
        """Return how many harmful meetings i has with the lanes j ahead of the one with the number place."""
        return count_harmful_meetings(alone, with_guard(other, first_lanes(other_guard, place)), wave)

    return (i, nth_lane(other_guard, row_of(count_ahead_in_row, count_lanes(other_guard), 0)))
