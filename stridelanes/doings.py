"""Doings: what the lanes of a kernel do in its accesses, and the races of two of them.

Whether two doings are in one phase does not count here.
"""

from stridelanes.guards import has_lane
from stridelanes.meetings import count_harmful_meetings, count_meetings, first_harmful_meeting, nth_meeting
from stridelanes.squares import count_triangle, nth_triangle
from stridelanes.statements import accesses_of, count_up_to


class Doing:
    """What the lanes of a statement do in one of its accesses."""

    def __init__(self, number, access, statement, phase):
        self.number = number
        self.statement, self.word, self.array, a, b = access
        self.phase = phase
        self.side = (statement[1], a, b, statement[5:] if statement[0] == "put" else None)


def doings_of(statements, barriers):
    """Return the list of the doings of all accesses of the statements of a kernel with such barriers."""
    phases = [count_up_to(barriers, number) for number in range(len(statements))]
    return [Doing(number, access, statements[access[0]], phases[access[0]])
            for number, access in enumerate(accesses_of(statements))]


def doings(kernel):
    """Return the list of the doings of all accesses of a kernel."""
    return doings_of(kernel.statements, kernel.barriers)


def doings_of_statements(kernel):
    """Return for each statement of a kernel the list of the doings of its accesses."""
    groups = [[] for _ in kernel.statements]
    for doing in doings(kernel):
        groups[doing.statement].append(doing)
    return groups


def may_race(one, other):
    """Tell whether two doings have the same array and at least one of them writes."""
    return one.array == other.array and (one.word == "write" or other.word == "write")


def are_racing(one, other, i, j, wave):
    """Tell whether the lanes i and j have a race of two doings that counts, the first doing with the lesser number."""
    guard, a, b, _ = one.side
    other_guard, other_a, other_b, _ = other.side
    if not may_race(one, other) or not has_lane(guard, i) or not has_lane(other_guard, j):
        return False
    if a * i + b != other_a * j + other_b:
        return False
    return i < j if one.number == other.number else i // wave != j // wave


def count_between(one, other, wave):
    """Return how many races of two doings count."""
    if not may_race(one, other):
        return 0
    if one.number != other.number:
        return count_meetings(one.side, other.side, wave)
    guard, a, _, _ = one.side
    return count_triangle(guard) if a == 0 else 0


def nth_between(one, other, number, wave):
    """Return the pair (i, j) with a number, ascending, of the races of two doings that count. There are so many."""
    if one.number != other.number:
        return nth_meeting(one.side, other.side, number, wave)
    return nth_triangle(one.side[0], number)


def are_agreeing(one, other, i, j):
    """Tell whether the lanes i and j put the same integer in two doings."""
    puts, other_puts = one.side[3], other.side[3]
    if puts is None or other_puts is None:
        return False
    return puts[0] * i + puts[1] == other_puts[0] * j + other_puts[1]


def count_harmful_between(one, other, wave):
    """Return how many harmful races of two doings count."""
    if not may_race(one, other):
        return 0
    if one.number != other.number:
        return count_harmful_meetings(one.side, other.side, wave)
    # Of one put either all lanes put the same integer, or no two do.
    return 0 if are_agreeing(one, one, 0, 1) else count_between(one, one, wave)


def first_harmful_between(one, other, wave):
    """Return the least pair (i, j) of the harmful races of two doings that count. There is one."""
    if one.number != other.number:
        return first_harmful_meeting(one.side, other.side, wave)
    return nth_triangle(one.side[0], 0)


def racing_pair(found):
    """Return the numbers (e, f) of the first two doings with a harmful race by waves of one lane, or an empty tuple."""
    for one in found:
        for other in found[one.number:]:
            if one.phase == other.phase and count_harmful_between(one, other, 1) > 0:
                return (one.number, other.number)
    return ()


def first_harmful_among(pairs, wave):
    """Return the least tuple (e, f, i, j) that is a harmful race of a pair of doings that counts, or None.

    The pairs ascend by their numbers.
    """
    for one, other in pairs:
        if count_harmful_between(one, other, wave) > 0:
            i, j = first_harmful_between(one, other, wave)
            return (one.number, other.number, i, j)
    return None


def is_harm_between(ones, others, wave):
    """Tell whether a doing of one list and a doing of another one have a harmful race that counts."""
    for one in ones:
        for other in others:
            if count_harmful_between(one, other, wave) > 0:
                return True
    return False
