"""Orders: fewer barriers, if statements that do not touch may change places."""

from stridelanes.barriers import stuck_race
from stridelanes.checks import check_two_statements, check_wave
from stridelanes.doings import doings_of_statements, is_harm_between
from stridelanes.kernels import Kernel

# Statements touch also through one lane and through lanes of one wave, so no lanes count as being together.
NO_WAVE = 0


def touches(kernel, u, v):
    """Tell whether two statements touch."""
    check_two_statements(kernel, u, v)
    groups = doings_of_statements(kernel)
    return is_harm_between(groups[u], groups[v], NO_WAVE)


def longest_chains(kernel, wave):
    """Return for each statement a tuple (level, before).

    The statement before it in a chain with the most steps that ends at it is before, None if there are no steps.
    """
    groups = doings_of_statements(kernel)
    found = []
    for v, group in enumerate(groups):
        level, before = 0, None
        for u in range(v):
            if is_harm_between(groups[u], group, NO_WAVE):
                steps = found[u][0] + (1 if is_harm_between(groups[u], group, wave) else 0)
                if steps > level:
                    level, before = steps, u
        found.append((level, before))
    return found


def levels(kernel, wave):
    """Return the list of the levels of all statements, or None if there is a stuck race."""
    if stuck_race(kernel, wave) is not None:
        return None
    return [level for level, _ in longest_chains(kernel, wave)]


def fewest_by_moving(kernel, wave=1):
    """Return the least number of barriers in some order that keeps all touching pairs; None if a race is stuck."""
    found = levels(kernel, wave)
    return None if found is None else max(found, default=0)


def best_order(kernel, wave=1):
    """Return (order, barriers): the statements by levels, barriers between levels; None if a race is stuck."""
    found = levels(kernel, wave)
    if found is None:
        return None
    rows = sorted([(level, number) for number, level in enumerate(found)])
    barriers = [place for place in range(1, len(rows)) if rows[place][0] > rows[place - 1][0]]
    return ([number for _, number in rows], barriers)


def chain(kernel, wave=1):
    """Return a chain with as many steps as barriers are needed in the best order; None if a race is stuck."""
    fewest = fewest_by_moving(kernel, wave)
    if fewest is None:
        return None
    found = longest_chains(kernel, wave)
    links = [number for number, (level, _) in enumerate(found) if level == fewest][:1]
    while links and found[links[0]][1] is not None:
        links = [found[links[0]][1]] + links
    return links


def rearranged(kernel, wave=1):
    """Return the kernel with the statements and barriers of the best order; None if a race is stuck."""
    best = best_order(kernel, wave)
    if best is None:
        return None
    order, barriers = best
    statements = kernel.statements
    return Kernel(kernel.lanes, [statements[number] for number in order], barriers)


def count_steps(kernel, numbers, wave=1):
    """Return the number of steps of a chain, None if a list of integers is no chain."""
    check_wave(wave)
    groups = doings_of_statements(kernel)
    for number in numbers:
        if number < 0 or number >= len(groups):
            return None
    steps = 0
    for u, v in zip(numbers, numbers[1:]):
        if u >= v or not is_harm_between(groups[u], groups[v], NO_WAVE):
            return None
        if is_harm_between(groups[u], groups[v], wave):
            steps += 1
    return steps
