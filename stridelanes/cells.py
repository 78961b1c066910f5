"""Cells: what they hold in the end, and where this comes from.

Without harmful races all schedules leave the same memory. One of them lets all lanes do the first statement, then
all lanes the second one, and so on; these functions look back along it.
"""

from stridelanes.checks import check_array, check_racing
from stridelanes.steps import step_of, writer_ahead


def steps_behind(statements, place):
    """Return the ascending list of the steps on which depends what a place holds.

    They are tuples (done, plus, sources): done is the tuple (statement, lane). The sources are tuples (before, cell)
    with the tuple (statement, lane) that wrote the cell before, None if it is as it was at first.
    """
    found = {}
    waiting = [writer_ahead(statements, place, len(statements))]
    while waiting:
        done = waiting.pop()
        if done is None or done in found:
            continue
        number, lane = done
        _, plus, places = step_of(statements[number], lane)
        sources = [(writer_ahead(statements, source, number), source[1]) for source in places]
        found[done] = (done, plus, sources)
        waiting.extend([before for before, _ in sources])
    return [found[done] for done in sorted(found)]


def content(kernel, array, cell):
    """Return what a cell holds in the end."""
    check_array(array)
    check_racing(kernel)
    # The writer of the cell is the last of the steps, as all others are in statements ahead of its own.
    held = cell
    left = {}
    for done, plus, sources in steps_behind(kernel.statements, (array, cell)):
        held = plus + sum([start if before is None else left[before] for before, start in sources])
        left[done] = held
    return held


def writer(kernel, array, cell):
    """Return the tuple (statement, lane) that wrote a cell last, the least lane that did, or None."""
    check_array(array)
    check_racing(kernel)
    return writer_ahead(kernel.statements, (array, cell), len(kernel))


def trace(kernel, array, cell):
    """Return the ascending list of all tuples (statement, lane) on which depends what a cell holds."""
    check_array(array)
    check_racing(kernel)
    return [done for done, _, _ in steps_behind(kernel.statements, (array, cell))]
