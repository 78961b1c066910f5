"""Doings: what the lanes of a kernel do in its accesses, and the races of two of them.

Rivals are two doings of one array, one of them or both to write, with the lesser number first. Where nothing else
is said, it does not count whether they are in one phase.
"""

from stridelanes.guards import has_lane
from stridelanes.meetings import count_harmful_meetings, count_meetings, first_harmful_meeting, nth_meeting
from stridelanes.squares import count_triangle, nth_triangle
from stridelanes.statements import ACCESSES, WRITTEN, count_up_to


class Doing:
    """What the lanes of a statement do in one of its accesses."""

    def __init__(self, number, statement, place, phase):
        self.number = number
        self.phase = phase
        self.array = statement[place]
        self.writes = place == WRITTEN
        puts = statement[5:] if statement[0] == "put" else None
        self.side = (statement[1], statement[place + 1], statement[place + 2], puts)


def doings_of_statement(statement, ahead=0, phase=0):
    """Return the list of the doings of a statement; their numbers begin with how many accesses stand ahead of it."""
    return [Doing(ahead + number, statement, place, phase) for number, place in enumerate(ACCESSES[statement[0]])]


def doings_by_statements(statements, barriers=()):
    """Return for each of the statements of a kernel with such barriers the list of the doings of its accesses."""
    groups = []
    ahead = 0
    for at, statement in enumerate(statements):
        groups.append(doings_of_statement(statement, ahead, count_up_to(barriers, at)))
        ahead += len(ACCESSES[statement[0]])
    return groups


def may_race(one, other):
    """Tell whether two doings are rivals."""
    return one.array == other.array and (one.writes or other.writes)


def rivals_in_phases(statements, barriers):
    """Return the ascending list of all rivals in one phase, (one, one) too, of a kernel."""
    found = [doing for group in doings_by_statements(statements, barriers) for doing in group]
    return [(one, other) for one in found for other in found[one.number:]
            if one.phase == other.phase and one.array == other.array and (one.writes or other.writes)]


def rivals_within(groups):
    """Return the ascending list of all rivals, (one, one) too, within one of the groups of doings."""
    return [(one, other) for group in groups for at, one in enumerate(group) for other in group[at:]
            if may_race(one, other)]


def rivals_between(ones, others):
    """Return the list of all rivals of a doing of one list and a doing of another one."""
    return [(one, other) for one in ones for other in others
            if one.array == other.array and (one.writes or other.writes)]


def are_racing(one, other, i, j, wave):
    """Tell whether the lanes i and j have a race of two rivals that counts."""
    guard, a, b, _ = one.side
    other_guard, other_a, other_b, _ = other.side
    if a * i + b != other_a * j + other_b or not has_lane(guard, i) or not has_lane(other_guard, j):
        return False
    return i < j if one.number == other.number else i // wave != j // wave


def count_between(one, other, wave):
    """Return how many races of two rivals count."""
    if one.number != other.number:
        return count_meetings(one.side, other.side, wave)
    guard, a, _, _ = one.side
    return count_triangle(guard) if a == 0 else 0


def nth_between(one, other, number, wave):
    """Return the pair (i, j) with a number, ascending, of the races of two rivals that count. There are so many."""
    if one.number != other.number:
        return nth_meeting(one.side, other.side, number, wave)
    return nth_triangle(one.side[0], number)


def are_agreeing(one, other, i, j):
    """Tell whether the lanes i and j put the same integer in two doings."""
    puts, other_puts = one.side[3], other.side[3]
    if puts is None or other_puts is None:
        return False
    return puts[0] * i + puts[1] == other_puts[0] * j + other_puts[1]


def count_harmful_between(one, other, wave):
    """Return how many harmful races of two rivals count."""
    if one.number != other.number:
        return count_harmful_meetings(one.side, other.side, wave)
    # Of one put either all lanes put the same integer, or no two do.
    return 0 if are_agreeing(one, one, 0, 1) else count_between(one, one, wave)


def first_harmful_between(one, other, wave):
    """Return the least pair (i, j) of the harmful races of two rivals that count. There is one."""
    if one.number != other.number:
        return first_harmful_meeting(one.side, other.side, wave)
    return nth_triangle(one.side[0], 0)


def racing_pair(rivals):
    """Return the numbers (e, f) of the first rivals of a list that race harmfully by W = 1, or an empty tuple."""
    for one, other in rivals:
        if count_harmful_between(one, other, 1) > 0:
            return (one.number, other.number)
    return ()


def first_harmful_among(rivals, wave):
    """Return the least tuple (e, f, i, j) that is a harmful race that counts, or None; the rivals ascend."""
    for one, other in rivals:
        if count_harmful_between(one, other, wave) > 0:
            i, j = first_harmful_between(one, other, wave)
            return (one.number, other.number, i, j)
    return None


def is_any_harmful(rivals, wave):
    """Tell whether some rivals of a list have a harmful race that counts."""
    for one, other in rivals:
        if count_harmful_between(one, other, wave) > 0:
            return True
    return False
