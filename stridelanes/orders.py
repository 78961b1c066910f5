"""Orders: fewer barriers, if statements that do not touch may change places."""

from stridelanes.checks import check_two_statements, check_wave
from stridelanes.choosing import rivals_of_two
from stridelanes.doings import doings_by_statements, is_any_harmful, rivals_between, rivals_within
from stridelanes.kernels import Kernel
from stridelanes.meetings import count_harmful_by_waves

# Statements touch also through one lane and through lanes of one wave, so no lanes count as being together.
NO_WAVE = 0


def touches(kernel, u, v):
    """Tell whether two statements touch."""
    check_two_statements(kernel, u, v)
    return is_any_harmful(rivals_of_two(kernel, u, v), NO_WAVE)


def touching_and_parting(rivals, wave):
    """Return a tuple for two statements, by all their rivals: whether they touch, and whether they need parting."""
    touching = False
    for one, other in rivals:
        meetings, races = count_harmful_by_waves(one.side, other.side, [NO_WAVE, wave])
        if races > 0:
            return (True, True)
        touching = touching or meetings > 0
    return (touching, False)


def longest_chains(groups, wave):
    """Return for each statement, by the groups of their doings, a tuple (level, before).

    The statement before it in a chain with the most steps that ends at it is before, None if there are no steps.
    """
    found = []
    for v, group in enumerate(groups):
        level, before = 0, None
        for u in range(v - 1, -1, -1):
            steps = found[u][0]
            # With one step more the chain would still not be longer than another one is.
            if steps < level:
                continue
            touching, parting = touching_and_parting(rivals_between(groups[u], group), wave)
            if parting:
                steps += 1
            if touching and steps > level:
                level, before = steps, u
        found.append((level, before))
    return found


def chains_to_all(kernel, wave):
    """Return the list of longest_chains for the statements of a kernel, or None if there is a stuck race."""
    check_wave(wave)
    groups = doings_by_statements(kernel.statements)
    return None if is_any_harmful(rivals_within(groups), wave) else longest_chains(groups, wave)


def fewest_by_moving(kernel, wave=1):
    """Return the least number of barriers in some order that keeps all touching pairs; None if a race is stuck."""
    found = chains_to_all(kernel, wave)
    return None if found is None else max([level for level, _ in found], default=0)


def best_order(kernel, wave=1):
    """Return (order, barriers): the statements by levels, barriers between levels; None if a race is stuck."""
    found = chains_to_all(kernel, wave)
    if found is None:
        return None
    rows = sorted([(level, number) for number, (level, _) in enumerate(found)])
    barriers = [place for place in range(1, len(rows)) if rows[place][0] > rows[place - 1][0]]
    return ([number for _, number in rows], barriers)


def chain(kernel, wave=1):
    """Return a chain with as many steps as barriers are needed in the best order; None if a race is stuck."""
    found = chains_to_all(kernel, wave)
    if found is None:
        return None
    fewest = max([level for level, _ in found], default=0)
    links = [number for number, (level, _) in enumerate(found) if level == fewest][:1]
    while links and found[links[0]][1] is not None:
        links = [found[links[0]][1]] + links
    return links


def rearranged(kernel, wave=1):
    """Return the kernel with the statements and barriers of the best order; None if a race is stuck."""
    best = best_order(kernel, wave)
    if best is None:
        return None
    order, barriers = best
    statements = kernel.statements
    return Kernel(kernel.lanes, [statements[number] for number in order], barriers)


def count_steps(kernel, numbers, wave=1):
    """Return the number of steps of a chain, None if a list of integers is no chain."""
    check_wave(wave)
    statements = kernel.statements
    if not all([0 <= number < len(statements) for number in numbers]):
        return None
    if not all([u < v for u, v in zip(numbers, numbers[1:])]):
        return None
    groups = doings_by_statements([statements[number] for number in numbers])
    steps = 0
    for ones, others in zip(groups, groups[1:]):
        touching, parting = touching_and_parting(rivals_between(ones, others), wave)
        if not touching:
            return None
        if parting:
            steps += 1
    return steps
