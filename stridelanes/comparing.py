"""Comparing: how many cells two kernels leave differently.

What a kernel of puts leaves in an array lies in layers, tuples (statement, cells): below all others the layer
(None, None), all cells as they were at first, and above it a layer for each statement that writes to the array,
with the progression of its cells. A cell holds what its uppermost layer left.
"""

from stridelanes.checks import check_array, check_racing
from stridelanes.errors import NotPlain
from stridelanes.guards import nth_lane
from stridelanes.progressions import progression, shared, written_cells
from stridelanes.unions import count_union, signed


def check_plain(kernel):
    """Raise NotPlain with the number of the first statement of a kernel that is no put."""
    for number, statement in enumerate(kernel.statements):
        if statement[0] != "put":
            raise NotPlain(number)


def check_comparable(first, second):
    """Raise an error if a kernel has a harmful race or a statement that is no put."""
    check_racing(first)
    check_racing(second)
    check_plain(first)
    check_plain(second)


def layers_of(kernel, array):
    """Return the list of the layers of an array, the lowest one first."""
    layers = [(statement, written_cells(statement)) for statement in kernel.statements if statement[2] == array]
    return [(None, None)] + [layer for layer in layers if layer[1] is not None]


def integer_at(statement, cell):
    """Return the integer that a put leaves in one of its cells; that of a cell as it was at first without a put."""
    if statement is None:
        return cell
    guard, _, a, b, c, d = statement[1:]
    # Lanes that put into one cell put the same integer: there are no harmful races.
    lane = nth_lane(guard, 0) if a == 0 else (cell - b) // a
    return c * lane + d


def equal_cells(cells, one, other):
    """Return the progression of those cells of a progression in which two puts leave the same integer, or None."""
    first, step, many = cells
    gap = integer_at(one, first) - integer_at(other, first)
    growth = integer_at(one, first + step) - integer_at(other, first + step) - gap if many > 1 else 0
    if growth == 0:
        return cells if gap == 0 else None
    k = -gap // growth
    if gap + growth * k != 0 or k < 0 or k >= many:
        return None
    return progression(first + step * k, step, 1)


def count_outside(cells, others):
    """Return how many cells of a progression are in none of others."""
    inside = [shared(cells, other) for other in others]
    return cells[2] - count_union(signed([both for both in inside if both is not None]))


def count_equal(layers, other_layers):
    """Return how many of the cells that one of two kernels writes hold the same integer in both."""
    total = 0
    for at, (one, cells) in enumerate(layers):
        for place, (other, other_cells) in enumerate(other_layers):
            if cells is None or other_cells is None:
                both = other_cells if cells is None else cells
            else:
                both = shared(cells, other_cells)
            equal = None if both is None else equal_cells(both, one, other)
            if equal is not None:
                above = layers[at + 1:] + other_layers[place + 1:]
                total += count_outside(equal, [upper for _, upper in above])
    return total


def count_unlike(first, second, array):
    """Return how many cells of an array hold different integers in the end in two kernels of puts."""
    layers, other_layers = layers_of(first, array), layers_of(second, array)
    written = [cells for _, cells in layers + other_layers if cells is not None]
    return count_union(signed(written)) - count_equal(layers, other_layers)


def count_differences(first, second, array):
    """Return how many cells of an array hold different integers in the end in two kernels."""
    check_array(array)
    check_comparable(first, second)
    return count_unlike(first, second, array)


def same_memory(first, second):
    """Tell whether no cell of any array holds different integers in the end in two kernels."""
    check_comparable(first, second)
    arrays = sorted({statement[2] for statement in first.statements + second.statements})
    return not any([count_unlike(first, second, array) > 0 for array in arrays])
