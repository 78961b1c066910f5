"""Schedules: kernels run lane by lane, in the order of a list of lanes."""

from stridelanes.errors import InvalidSchedule
from stridelanes.guards import count_lanes, has_lane
from stridelanes.interleavings import ends_of_phase
from stridelanes.statements import count_up_to
from stridelanes.steps import step_of


def busy_phases(kernel):
    """Return for each phase in which some lane has a statement the list of those statements."""
    barriers = kernel.barriers
    phases = [[] for _ in range(len(barriers) + 1)]
    for number, statement in enumerate(kernel.statements):
        if count_lanes(statement[1]) > 0:
            phases[count_up_to(barriers, number)].append(statement)
    return [phase for phase in phases if phase]


def next_place(phase, place, lane):
    """Return the place, from a place on, of the first statement of a phase that a lane does, or None."""
    for at in range(place, len(phase)):
        if has_lane(phase[at][1], lane):
            return at
    return None


def integer_after(memory, step):
    """Return the integer that a step leaves; memory is a dict of what the places that were written hold."""
    _, plus, sources = step
    return plus + sum([memory.get(source, source[1]) for source in sources])


def run_schedule(kernel, schedule):
    """Return the memory that a schedule leaves."""
    phases = busy_phases(kernel)
    left = [sum([count_lanes(statement[1]) for statement in phase]) for phase in phases]
    memory, places, at = {}, {}, 0
    for number, lane in enumerate(schedule):
        place = next_place(phases[at], places.get(lane, 0), lane) if at < len(phases) else None
        if place is None:
            raise InvalidSchedule(number)
        step = step_of(phases[at][place], lane)
        memory[step[0]] = integer_after(memory, step)
        places[lane] = place + 1
        left[at] -= 1
        if left[at] == 0:
            at, places = at + 1, {}
    if at < len(phases):
        raise InvalidSchedule(None)
    return sorted([(array, cell, integer) for (array, cell), integer in memory.items()])


def schedule_in_order(kernel):
    """Yield the lanes as they take turns if in each phase each lane does all its statements ahead of the next one."""
    for phase in busy_phases(kernel):
        for lane in range(kernel.lanes):
            for statement in phase:
                if has_lane(statement[1], lane):
                    yield lane


def steps_by_lanes(kernel):
    """Return for each phase with something to do a list with the list of the steps of each lane."""
    return [[[step_of(statement, lane) for statement in phase if has_lane(statement[1], lane)]
             for lane in range(kernel.lanes)] for phase in busy_phases(kernel)]


def with_numbers(phases, numbers):
    """Return the steps of phases with the number of each place instead of it."""
    return [[[(numbers[target], plus, [numbers[source] for source in sources]) for target, plus, sources in steps]
             for steps in lanes] for lanes in phases]


def outcomes(kernel):
    """Return the ascending list of the different memories that schedules leave."""
    phases = steps_by_lanes(kernel)
    steps = [step for lanes in phases for own in lanes for step in own]
    written = sorted({target for target, _, _ in steps})
    places = sorted({place for target, _, sources in steps for place in [target] + sources})
    numbers = {place: number for number, place in enumerate(places)}
    found = [tuple([cell for _, cell in places])]
    for lanes in with_numbers(phases, numbers):
        found = ends_of_phase(lanes, found)
    return sorted([[(array, cell, integers[numbers[(array, cell)]]) for array, cell in written] for integers in found])
