"""Progressions: the cells that a statement writes, and the cells that several have together.

A progression is a tuple (first, step, many): the cells first + step * k for k from 0 on, below many. It has at
least one cell, and its step is at least 1; the step is 1 if it has one cell alone.
"""

from stridelanes.guards import count_lanes, first_from, joined_rests, nth_lane


def progression(first, step, many):
    """Return the progression of so many cells."""
    return (first, step if many > 1 else 1, many)


def written_cells(statement):
    """Return the progression of the cells that a statement writes, or None if it writes none."""
    guard, _, a, b = statement[1:5]
    many = count_lanes(guard)
    if many == 0:
        return None
    if a == 0:
        return (b, 1, 1)
    least = nth_lane(guard, 0 if a > 0 else many - 1)
    return progression(a * least + b, abs(a) * guard[2], many)


def last_cell(cells):
    """Return the last cell of a progression."""
    first, step, many = cells
    return first + step * (many - 1)


def count_below(cells, end):
    """Return how many cells of a progression are less than a cell."""
    first, step, many = cells
    return max(0, min(many, (end - first + step - 1) // step))


def shared(one, other):
    """Return the progression of the cells that two progressions both have, or None if no cell is in both."""
    low, high = max(one[0], other[0]), min(last_cell(one), last_cell(other))
    joined = joined_rests(one[1], one[0], other[1], other[0]) if low <= high else None
    if joined is None:
        return None
    step, rest = joined
    first = first_from(low, step, rest)
    return progression(first, step, (high - first) // step + 1) if first <= high else None


def window(cells, low, high):
    """Return the list of the cells of a progression from low on, below high."""
    first, step, _ = cells
    return [first + step * k for k in range(count_below(cells, low), count_below(cells, high))]
