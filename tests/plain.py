"""What the tests have in common: small kernels, and what the document says of them, lane by lane."""

import random
import unittest
from itertools import combinations

from stridelanes.kernels import Kernel, accesses, phase_of

GREAT = 10 ** 30
FEW = (0, 10, 1, 0)
MANY = (0, GREAT, 1, 0)
WAVES = (1, 2, 3, 4, 5, 8, 31, 32)
NO_WAVES = (0, 33, -1, -32, 34, GREAT, -GREAT)


class Case(unittest.TestCase):
    def refuses(self, error, value, call, *arguments, **named):
        with self.assertRaises(error) as caught:
            call(*arguments, **named)
        self.assertIs(type(caught.exception), error)
        self.assertEqual(caught.exception.value, value)

    def refuses_waves(self, error, call, *arguments):
        """The wave is the last argument."""
        for wave in NO_WAVES:
            self.refuses(error, wave, call, *arguments, wave)
            self.refuses(error, wave, call, *arguments, wave=wave)

    def defined_in(self, module, *names):
        for name in names:
            self.assertEqual(getattr(module, name).__module__, module.__name__)


def lanes_of(guard):
    low, high, step, rest = guard
    return [lane for lane in range(low, high) if lane % step == rest]


def put_integer(statement, lane):
    """The integer that a lane puts, or None if the statement is no put."""
    return statement[5] * lane + statement[6] if statement[0] == "put" else None


def meetings(kernel, e, f):
    """All (i, j, whether both put the same integer), the same lane too, that have one cell, one of them to write."""
    found, statements = accesses(kernel), kernel.statements
    u, word, array, a, b = found[e]
    v, other_word, other_array, other_a, other_b = found[f]
    if array != other_array or "write" not in (word, other_word):
        return []
    rows = []
    for i in lanes_of(statements[u][1]):
        for j in lanes_of(statements[v][1]):
            if a * i + b == other_a * j + other_b:
                integers = (put_integer(statements[u], i), put_integer(statements[v], j))
                rows.append((i, j, None not in integers and integers[0] == integers[1]))
    return rows


def races_in_any_phase(kernel, e, f, wave):
    """All (i, j, whether it is harmless) that would be races that count, if the statements were in one phase."""
    if e == f:
        return [(i, j, same) for i, j, same in meetings(kernel, e, f) if i < j]
    return [(i, j, same) for i, j, same in meetings(kernel, e, f) if i // wave != j // wave]


def races(kernel, e, f, wave):
    """All (i, j, whether it is harmless) of races that count."""
    found = accesses(kernel)
    if phase_of(kernel, found[e][0]) != phase_of(kernel, found[f][0]):
        return []
    return races_in_any_phase(kernel, e, f, wave)


def pairs_of_accesses(kernel):
    many = len(accesses(kernel))
    return [(e, f) for e in range(many) for f in range(e, many)]


def pairs_of_statements(kernel):
    return list(combinations(range(len(kernel)), 2))


def need_parting(kernel, wave):
    """All pairs of statements that need parting."""
    found = accesses(kernel)
    return sorted({(found[e][0], found[f][0]) for e, f in pairs_of_accesses(kernel)
                   if found[e][0] != found[f][0]
                   and not all(same for _, _, same in races_in_any_phase(kernel, e, f, wave))})


def do_touch(kernel):
    """All pairs of statements that touch."""
    found = accesses(kernel)
    return sorted({(found[e][0], found[f][0]) for e, f in pairs_of_accesses(kernel)
                   if found[e][0] != found[f][0] and not all(same for _, _, same in meetings(kernel, e, f))})


def stuck(kernel, wave):
    """The least harmful race that counts within one statement, or None."""
    found = accesses(kernel)
    for e, f in pairs_of_accesses(kernel):
        if found[e][0] == found[f][0]:
            for i, j, same in races_in_any_phase(kernel, e, f, wave):
                if not same:
                    return (e, f, i, j)
    return None


def a_guard(chance, lanes):
    low, high = 0, lanes
    if chance.random() < 0.5:
        low = chance.randint(0, lanes)
        high = chance.randint(low, lanes)
    step = chance.choice((1, 1, 1, 2, 3, 4, 5, 6, 8, 12))
    return (low, high, step, chance.randrange(step))


def a_statement(chance, lanes, slope, factor):
    """A statement; all its cells are multiples of a factor."""
    def cell():
        return (chance.randint(-slope, slope) * factor, chance.randint(-3, lanes) * factor)

    def array():
        return chance.choice("xxy")

    guard, word = a_guard(chance, lanes), chance.choice(("put", "put", "move", "sum"))
    if word == "put":
        return (word, guard, array(), *cell(), chance.choice((0, 0, 1, -1, 2)), chance.randint(-3, 3))
    if word == "move":
        return (word, guard, array(), *cell(), array(), *cell(), chance.randint(-2, 2))
    return (word, guard, array(), *cell(), array(), *cell(), array(), *cell())


def small_kernels(seed, many, most_lanes=12, most_statements=4, slopes=(0, 1, 3), factor=1):
    """So many kernels, the same ones for one seed."""
    chance = random.Random(seed)
    for _ in range(many):
        lanes, length = chance.randint(1, most_lanes), chance.randint(0, most_statements)
        slope = chance.choice(slopes)
        statements = [a_statement(chance, lanes, slope, factor) for _ in range(length)]
        yield Kernel(lanes, statements, [place for place in range(1, length) if chance.random() < 0.3])


def busy_kernels(seed, many, most_lanes=9, most_statements=6):
    """So many kernels with many races between statements and few within one."""
    chance = random.Random(seed)
    for _ in range(many):
        lanes, length = chance.randint(2, most_lanes), chance.randint(0, most_statements)
        arrays = chance.choice(("vx", "vwxy"))
        statements = []
        for _ in range(length):
            guard = chance.choice(((0, lanes, 1, 0), (0, lanes, 1, 0), (1, lanes, 2, 1), (0, lanes - 1, 3, 0)))
            array, source = chance.sample(arrays, 2)
            a, a2, b, b2 = chance.choice((1, 1, -1, 2)), *[chance.randint(-1, 3) for _ in range(3)]
            if chance.random() < 0.5:
                statements.append(("put", guard, array, a, b, chance.choice((0, 1, a)), chance.choice((0, 1, b))))
            else:
                statements.append(("move", guard, array, a, b, source, a2, b2, 1))
        yield Kernel(lanes, statements, [place for place in range(1, length) if chance.random() < 0.5])
