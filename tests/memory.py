"""What the tests of cells and schedules have in common: kernels run lane by lane, and kernels without harmful races."""

import random

from plain import a_statement, lanes_of, stuck
from stridelanes.barriers import fewest_barriers
from stridelanes.kernels import Kernel, phase_of

ARRAYS_AT = {"put": (2,), "move": (2, 5), "sum": (2, 5, 8)}


def places_of(statement, lane):
    """The tuples (array, cell) of a lane in a statement: the one that is written, then those that are read."""
    return [(statement[at], statement[at + 1] * lane + statement[at + 2]) for at in ARRAYS_AT[statement[0]]]


def held(memory, place):
    return memory.get(place, place[1])


def do(memory, statement, lane):
    """Let a lane do a statement: memory is a dict from (array, cell) to what was written there."""
    target, *sources = places_of(statement, lane)
    if statement[0] == "put":
        memory[target] = statement[5] * lane + statement[6]
    elif statement[0] == "move":
        memory[target] = held(memory, sources[0]) + statement[8]
    else:
        memory[target] = held(memory, sources[0]) + held(memory, sources[1])


def phases_of(kernel):
    """The lists of the numbers of the statements of each phase."""
    found = [[] for _ in range(len(kernel.barriers) + 1)]
    for number in range(len(kernel)):
        found[phase_of(kernel, number)].append(number)
    return found


def turns_in_order(kernel):
    """All (statement, lane) phase by phase, lane by lane."""
    statements = kernel.statements
    return [(number, lane) for phase in phases_of(kernel) for lane in range(kernel.lanes)
            for number in phase if lane in lanes_of(statements[number][1])]


def run(kernel, turns=None):
    """The memory after all turns (statement, lane), those in order where none are given."""
    statements, memory = kernel.statements, {}
    for number, lane in turns_in_order(kernel) if turns is None else turns:
        do(memory, statements[number], lane)
    return memory


def last_writer(kernel, place, end=None):
    """The tuple (statement, lane) that writes a place last, found by going through all lanes, or None."""
    found = None
    for number, statement in enumerate(kernel.statements[:end]):
        writers = [lane for lane in lanes_of(statement[1]) if places_of(statement, lane)[0] == place]
        found = (number, writers[0]) if writers else found
    return found


def all_behind(kernel, place, end=None):
    """The set of all tuples (statement, lane) on which what a place holds depends."""
    found = last_writer(kernel, place, end)
    if found is None:
        return set()
    number, lane = found
    sources = places_of(kernel.statements[number], lane)[1:]
    return {found}.union(*[all_behind(kernel, source, number) for source in sources])


def an_unstuck_statement(chance, lanes, slope):
    """A statement that has no harmful race by itself."""
    while True:
        statement = a_statement(chance, lanes, slope, 1)
        if stuck(Kernel(lanes, [statement]), 1) is None:
            return statement


def calm_kernels(seed, many, most_lanes=9, most_statements=12, slopes=(1, 1, 2, 3)):
    """So many kernels without harmful races, with the fewest barriers or one ahead of each statement."""
    chance = random.Random(seed)
    for number in range(many):
        lanes, length = chance.randint(1, most_lanes), chance.randint(0, most_statements)
        kernel = Kernel(lanes, [an_unstuck_statement(chance, lanes, chance.choice(slopes)) for _ in range(length)])
        yield kernel.with_barriers(fewest_barriers(kernel) if number % 2 else list(range(1, length)))


def memory_list(memory):
    return sorted((array, cell, integer) for (array, cell), integer in memory.items())


def queues_of(kernel, phase):
    """The list of the statements of a phase that each lane does, by lanes that do some."""
    found = {}
    for number in phase:
        for lane in lanes_of(kernel.statements[number][1]):
            found.setdefault(lane, []).append(number)
    return found


def drawn_schedule(chance, kernel):
    """A whole schedule in which the lanes take turns in any way."""
    found = []
    for phase in phases_of(kernel):
        entries = [lane for lane, queue in queues_of(kernel, phase).items() for _ in queue]
        chance.shuffle(entries)
        found += entries
    return found


def run_turn_by_turn(kernel, schedule):
    """A tuple (number, memory): the number of the first wrong entry, None if the schedule ends too early, or 'over'."""
    waiting = [queues for queues in [queues_of(kernel, phase) for phase in phases_of(kernel)] if queues]
    memory = {}
    for number, lane in enumerate(schedule):
        if not waiting or not waiting[0].get(lane):
            return (number, None)
        do(memory, kernel.statements[waiting[0][lane].pop(0)], lane)
        if not any(waiting[0].values()):
            waiting.pop(0)
    return (None, None) if waiting else ("over", memory_list(memory))


def all_outcomes(kernel):
    """The ascending list of the memories of all schedules, each tried by itself."""
    memories = [{}]
    for phase in phases_of(kernel):
        queues, found = queues_of(kernel, phase), {}

        def go_on(memory, done):
            waiting = [lane for lane in queues if done[lane] < len(queues[lane])]
            if not waiting:
                found[tuple(memory_list(memory))] = memory
            for lane in waiting:
                after = dict(memory)
                do(after, kernel.statements[queues[lane][done[lane]]], lane)
                go_on(after, {**done, lane: done[lane] + 1})

        for memory in memories:
            go_on(memory, dict.fromkeys(queues, 0))
        memories = list(found.values())
    return sorted(memory_list(memory) for memory in memories)
