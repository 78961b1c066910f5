"""Written cells: which cells of an array some lane writes."""

from stridelanes.checks import check_array
from stridelanes.errors import InvalidNumber
from stridelanes.progressions import written_cells
from stridelanes.steps import least_writer
from stridelanes.unions import count_union, count_union_below, nth_of_union, signed


def written_parts(kernel, array):
    """Return the list of the progressions of the cells that the statements write to an array."""
    found = [written_cells(statement) for statement in kernel.statements if statement[2] == array]
    return [part for part in found if part is not None]


def count_written(kernel, array):
    """Return how many cells of an array are written."""
    check_array(array)
    return count_union(signed(written_parts(kernel, array)))


def written_below(kernel, array, cell):
    """Return how many written cells of an array are less than a cell."""
    check_array(array)
    return count_union_below(signed(written_parts(kernel, array)), cell)


def nth_written(kernel, array, number):
    """Return the written cell of an array with a number, ascending."""
    check_array(array)
    parts = written_parts(kernel, array)
    union = signed(parts)
    if number < 0 or number >= count_union(union):
        raise InvalidNumber(number)
    return nth_of_union(parts, union, number)


def is_written(kernel, array, cell):
    """Tell whether a cell is written."""
    check_array(array)
    return any([least_writer(statement, (array, cell)) is not None for statement in kernel.statements])
