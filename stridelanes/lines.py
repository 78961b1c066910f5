"""Lines: how many memory lines an access touches."""

from math import gcd

from stridelanes.checks import check_number_of_wave, check_wave
from stridelanes.choosing import doing_at
from stridelanes.errors import InvalidNumber
from stridelanes.guards import count_lanes, nth_lane
from stridelanes.sums import sum_of_quotients
from stridelanes.waves import lanes_of_wave, waves_with_lanes


def check_size(size):
    """Raise InvalidNumber if no line has so many cells."""
    if size < 1:
        raise InvalidNumber(size)


def lines_of_wave(kernel, access, wave, size, number):
    """Return how many lines the wave with a number touches with an access."""
    guard, a, b, _ = doing_at(kernel, access).side
    check_wave(wave)
    check_size(size)
    check_number_of_wave(kernel, wave, number)
    lanes = lanes_of_wave(guard, wave, number)
    return len({(a * nth_lane(lanes, place) + b) // size for place in range(count_lanes(lanes))})


def count_changes(side, wave, size):
    """Return how often, within the waves, a lane of a side touches another line than the lane ahead of it.

    The guard has more than one lane in some waves, and the cells of neighbouring lanes are less than a line apart.
    So from one lane to the next one the number of the line changes by one or not at all, always in one direction.
    """
    guard, a, b, _ = side
    step, neighbours = guard[2], count_lanes(guard) - 1
    period = wave // gcd(step, wave)
    total = 0
    for place in range(min(period, neighbours)):
        lane = nth_lane(guard, place)
        if lane // wave == (lane + step) // wave:
            # After each period the lanes have the same places within their waves.
            many = (neighbours - place + period - 1) // period
            cell, move = a * lane + b, a * step
            ahead = sum_of_quotients(many, size, move * period, cell)
            total += abs(sum_of_quotients(many, size, move * period, cell + move) - ahead)
    return total


def count_lines(kernel, access, wave, size):
    """Return how many lines all waves touch with an access, each counted by itself."""
    side = doing_at(kernel, access).side
    check_wave(wave)
    check_size(size)
    guard, a, _, _ = side
    if guard[2] >= wave or abs(a) * guard[2] >= size:
        # No two lanes of one wave touch one line.
        return count_lanes(guard)
    return waves_with_lanes(guard, wave) + count_changes(side, wave, size)
