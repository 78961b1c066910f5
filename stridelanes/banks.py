"""Banks: how many steps they need for what the lanes of a wave ask for at once."""

from math import gcd, isqrt

from stridelanes.checks import check_number_of_wave, check_wave
from stridelanes.choosing import doing_at
from stridelanes.errors import InvalidNumber
from stridelanes.guards import count_lanes
from stridelanes.waves import lanes_of_wave, waves_by_lanes

MOST_BANKS = 4096


def check_banks(banks):
    """Raise InvalidNumber if a memory cannot have so many banks."""
    if banks < 1 or banks > MOST_BANKS:
        raise InvalidNumber(banks)


def check_length(length):
    """Raise InvalidNumber if a length is less than 1."""
    if length < 1:
        raise InvalidNumber(length)


def degree_of_lanes(lanes, move, banks):
    """Return the degree of so many lanes, the cell of each one being a move away from that of the one ahead."""
    if move == 0:
        return min(lanes, 1)
    # So many neighbouring lanes have different banks; then the banks come again in the same order.
    period = banks // gcd(move, banks)
    return (lanes + period - 1) // period


def degrees(kernel, access, wave, banks):
    """Check what is asked; return a list of tuples (degree, waves): so many waves have such a degree, not 0."""
    guard, a, _, _ = doing_at(kernel, access).side
    check_wave(wave)
    check_banks(banks)
    return [(degree_of_lanes(lanes, a * guard[2], banks), waves) for lanes, waves in waves_by_lanes(guard, wave)]


def degree_of_wave(kernel, access, wave, banks, number):
    """Return the degree of the wave with a number."""
    guard, a, _, _ = doing_at(kernel, access).side
    check_wave(wave)
    check_banks(banks)
    check_number_of_wave(kernel, wave, number)
    return degree_of_lanes(count_lanes(lanes_of_wave(guard, wave, number)), a * guard[2], banks)


def total_degree(kernel, access, wave, banks):
    """Return the sum of the degrees of all waves."""
    return sum([degree * waves for degree, waves in degrees(kernel, access, wave, banks)])


def greatest_degree(kernel, access, wave, banks):
    """Return the greatest of the degrees of all waves."""
    return max([degree for degree, waves in degrees(kernel, access, wave, banks) if waves > 0], default=0)


def divisors(number):
    """Return the ascending list of the divisors of a number."""
    small = [divisor for divisor in range(1, isqrt(number) + 1) if number % divisor == 0]
    return small + [number // divisor for divisor in small[::-1] if divisor * divisor != number]


def is_free_length(wave, banks, length):
    """Tell whether a length is free of conflicts, as all lanes of a full wave then have different banks."""
    return wave * gcd(length, banks) <= banks


def signed_divisors(wave, banks):
    """Return a list of tuples (divisor, times) that counts the lengths free of conflicts.

    Of the divisors of a length, those of the list have times that make 1 together if it is free of conflicts, and 0
    otherwise. The divisors that it has in common with the banks decide that, so such a list can be found.
    """
    found = []
    for divisor in divisors(banks):
        before = sum([times for earlier, times in found if divisor % earlier == 0])
        wanted = 1 if is_free_length(wave, banks, divisor) else 0
        if before != wanted:
            found.append((divisor, wanted - before))
    return found


def least_length(wave, banks, length):
    """Return the least length from a length on that is free of conflicts, or None if there is none."""
    check_wave(wave)
    check_banks(banks)
    check_length(length)
    if wave > banks:
        return None
    # A length without a common divisor with the banks is free, and of so few banks there is always one nearby.
    found = length
    while not is_free_length(wave, banks, found):
        found += 1
    return found


def count_lengths(wave, banks, low, high):
    """Return how many lengths from low to high are free of conflicts."""
    check_wave(wave)
    check_banks(banks)
    check_length(low)
    # A high that is less than 1 is less than low, too.
    if high < low:
        raise InvalidNumber(high)
    ahead = low - 1
    return sum([times * (high // divisor - ahead // divisor) for divisor, times in signed_divisors(wave, banks)])
