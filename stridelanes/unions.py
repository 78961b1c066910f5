"""Unions: the cells that are in some of several progressions, counted with signs.

A signed list of tuples (progression, times) stands for a union: of any cells, as many are in the union as the
counts of the progressions, each taken so many times, make together. The times may be negative.
"""

from stridelanes.progressions import count_below, last_cell, shared, window


def signed(parts):
    """Return the signed list of the union of progressions."""
    found = {}
    for part in parts:
        # What the part has together with the union so far would count twice.
        changes = [(part, 1)]
        for cells, times in found.items():
            both = shared(cells, part)
            if both is not None:
                changes.append((both, -times))
        # Equal progressions are taken together: many of them come to nothing.
        for cells, times in changes:
            found[cells] = found.get(cells, 0) + times
        found = {cells: times for cells, times in found.items() if times != 0}
    return list(found.items())


def count_union(union):
    """Return how many cells a union has, by its signed list."""
    return sum([times * cells[2] for cells, times in union])


def count_union_below(union, end):
    """Return how many cells of a union are less than a cell, by its signed list."""
    return sum([times * count_below(cells, end) for cells, times in union])


def even_stretch(parts, union, number):
    """Return cells (low, high) between which the cell with a number lies: it is at least low and less than high.

    No progression begins or ends between them.
    """
    ends = sorted(set([part[0] for part in parts] + [last_cell(part) + 1 for part in parts]))
    at, behind = 0, len(ends) - 1
    while behind - at > 1:
        middle = (at + behind) // 2
        if count_union_below(union, ends[middle]) <= number:
            at = middle
        else:
            behind = middle
    return (ends[at], ends[behind])


def narrowed(union, low, high, number):
    """Return cells (low, high) that are closer together, with few cells of the union between them.

    In an even stretch each progression grows with the cells like a straight line, except for less than one cell. So
    the union does, except for less than slack many cells, and where it has a number is known that well.
    """
    slack = sum([abs(times) for _, times in union])
    many = count_union_below(union, high) - count_union_below(union, low)
    place = number - count_union_below(union, low)
    if many <= 4 * slack:
        return (low, high)
    length = high - low
    nearest = low + length * max(0, place - slack) // (many + slack)
    farthest = low + length * (place + 1 + slack) // (many - slack) + 1
    return (nearest, min(high, farthest))


def nth_of_union(parts, union, number):
    """Return the cell with a number, ascending, of the union of progressions that has this signed list."""
    low, high = even_stretch(parts, union, number)
    low, high = narrowed(union, low, high, number)
    cells = sorted(set([cell for part in parts for cell in window(part, low, high)]))
    return cells[number - count_union_below(union, low)]
