"""Steps: what one lane does in one statement, and which lane does it to a cell.

A place is a tuple (array, cell). A step is a tuple (target, plus, sources): the place target becomes plus and what
the places of the list sources hold, all together.
"""

from stridelanes.guards import count_lanes, has_lane, nth_lane
from stridelanes.statements import ARRAYS


def place_at(statement, at, lane):
    """Return the place that a lane has for the array that stands at an item of a statement."""
    return (statement[at], statement[at + 1] * lane + statement[at + 2])


def step_of(statement, lane):
    """Return the step of a lane in a statement."""
    word = statement[0]
    target, *sources = [place_at(statement, at, lane) for at in ARRAYS[word]]
    if word == "put":
        return (target, statement[5] * lane + statement[6], sources)
    return (target, statement[8] if word == "move" else 0, sources)


def least_writer(statement, place):
    """Return the least lane that writes a place in a statement, or None."""
    guard, array, a, b = statement[1:5]
    if array != place[0]:
        return None
    cell = place[1]
    if a == 0:
        return nth_lane(guard, 0) if cell == b and count_lanes(guard) > 0 else None
    lane = (cell - b) // a
    return lane if a * lane + b == cell and has_lane(guard, lane) else None


def writer_ahead(statements, place, end):
    """Return the tuple (statement, lane) that writes a place last in the first statements, so many, or None."""
    for number in range(end - 1, -1, -1):
        lane = least_writer(statements[number], place)
        if lane is not None:
            return (number, lane)
    return None
