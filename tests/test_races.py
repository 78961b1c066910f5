"""Points 2, 3, 7, 8 and 9: races."""

import random
from math import gcd

from plain import (Case, FEW, GREAT, MANY, NO_WAVES, WAVES, lanes_of, pairs_of_accesses, races, races_in_any_phase,
                   small_kernels)
from stridelanes import races as module
from stridelanes.errors import InvalidAccess, InvalidNumber
from stridelanes.kernels import Kernel, accesses
from stridelanes.races import count_races, first_race, is_race, nth_race, total_races

SMALL = Kernel(10, [("put", FEW, "x", 2, 0, 1, 0), ("move", FEW, "y", 1, 0, "x", 3, 1, 0)])
FAR = Kernel(GREAT, [("put", MANY, "x", 2, 0, 1, 0), ("move", MANY, "y", 1, 0, "x", 3, 1, 0)])


def two_puts(lanes, guard, a, b, other_guard, other_a, other_b, barriers=()):
    return Kernel(lanes, [("put", guard, "x", a, b, 1, 0), ("put", other_guard, "x", other_a, other_b, 1, 1)], barriers)


class SmallTest(Case):
    def agrees(self, kernel, wave):
        """All that is told of the races of a kernel is what going through the lanes tells."""
        total = 0
        for e, f in pairs_of_accesses(kernel):
            found = [(i, j) for i, j, _ in races(kernel, e, f, wave)]
            total += len(found)
            with self.subTest(lanes=kernel.lanes, statements=kernel.statements, e=e, f=f, wave=wave):
                self.assertEqual(count_races(kernel, e, f, wave), len(found))
                self.assertEqual(first_race(kernel, e, f, wave), found[0] if found else None)
                self.assertEqual([nth_race(kernel, e, f, number, wave) for number in range(len(found))], found)
                self.refuses(InvalidNumber, len(found), nth_race, kernel, e, f, len(found), wave)
        self.assertEqual(total_races(kernel, wave), total)

    def agrees_on_lanes(self, kernel, wave):
        for e, f in pairs_of_accesses(kernel):
            found = [(i, j) for i, j, _ in races(kernel, e, f, wave)]
            told = [(i, j) for i in range(-2, kernel.lanes + 3) for j in range(-2, kernel.lanes + 3)
                    if is_race(kernel, e, f, i, j, wave)]
            self.assertEqual(told, found, (kernel.lanes, kernel.statements, e, f, wave))

    def test_examples_of_the_document(self):
        self.assertEqual(count_races(SMALL, 0, 1), 3)
        self.assertEqual(count_races(SMALL, 0, 1, wave=4), 2)
        self.assertEqual(first_race(SMALL, 0, 1), (2, 1))
        self.assertEqual(nth_race(SMALL, 0, 1, 2), (8, 5))
        self.assertEqual(total_races(FAR), 333333333333333333333333333333)

    def test_functions_are_defined_in_this_file(self):
        self.defined_in(module, "count_races", "first_race", "nth_race", "is_race", "total_races")

    def test_small_kernels(self):
        for number, kernel in enumerate(small_kernels(1, 300)):
            self.agrees(kernel, WAVES[number % len(WAVES)])
            self.agrees(kernel, 1)

    def test_kernels_of_several_waves(self):
        for number, kernel in enumerate(small_kernels(2, 60, most_lanes=75, most_statements=3)):
            for wave in (WAVES[number % len(WAVES)], 16):
                self.agrees(kernel, wave)

    def test_kernels_of_many_statements(self):
        for number, kernel in enumerate(small_kernels(16, 12, most_lanes=5, most_statements=12)):
            self.agrees(kernel, WAVES[number % 4])
            self.agrees_on_lanes(kernel, WAVES[number % 4])

    def test_one_cell_of_all_lanes(self):
        for number, kernel in enumerate(small_kernels(3, 60, most_lanes=40, most_statements=2, slopes=(0,))):
            self.agrees(kernel, WAVES[number % len(WAVES)])

    def test_cells_times_a_great_factor(self):
        for factor in (GREAT, -10 ** 17 - 3):
            for number, kernel in enumerate(small_kernels(4, 60, factor=factor)):
                self.agrees(kernel, WAVES[number % len(WAVES)])
                self.agrees_on_lanes(kernel, WAVES[number % 4])

    def test_is_race_for_all_pairs_of_lanes_and_integers_that_are_none(self):
        for number, kernel in enumerate(small_kernels(5, 120)):
            self.agrees_on_lanes(kernel, WAVES[number % len(WAVES)])
            self.agrees_on_lanes(kernel, 1)
        for i, j in ((-GREAT, 0), (0, -GREAT), (GREAT, 1), (1, GREAT), (-1, 5), (-3, -2)):
            self.assertIs(is_race(two_puts(10, FEW, 0, 5, FEW, 0, 5), 0, 1, i, j), False)
        self.assertIs(is_race(SMALL, 0, 1, 2, 1), True)
        self.assertIs(is_race(SMALL, 0, 1, 1, 2), False)

    def test_all_slopes(self):
        for a in range(-3, 4):
            for other_a in range(-3, 4):
                for b in (-7, 0, 5):
                    kernel = two_puts(13, (1, 12, 2, 1), a, b, (0, 13, 3, 2), other_a, 2)
                    other = two_puts(13, (0, 13, 1, 0), a, b, (0, 13, 1, 0), other_a, 2)
                    for wave in (1, 4, 7):
                        self.agrees(kernel, wave)
                        self.agrees(other, wave)

    def test_all_guards(self):
        guards = [(low, high, step, rest) for low in (0, 2) for high in (2, 7) for step in (1, 2, 3)
                  for rest in range(step)]
        for guard in guards:
            for other in guards:
                for wave in (1, 3):
                    self.agrees(two_puts(7, guard, 1, 0, other, 1, 1), wave)
                    self.agrees(two_puts(7, guard, 0, 4, other, 0, 4), wave)
                    self.agrees(two_puts(7, guard, 0, 4, other, -2, 8), wave)

    def test_guards_without_lanes(self):
        for guard in ((0, 0, 1, 0), (5, 5, 1, 0), (10, 10, 3, 2), (5, 6, 7, 4), (1, 7, 9, 8)):
            for a in (-1, 0, 1):
                for other_a in (-1, 0, 1):
                    for wave in (1, 4):
                        self.agrees(two_puts(10, guard, a, 5, FEW, other_a, 5), wave)
                        self.agrees(two_puts(10, FEW, a, 5, guard, other_a, 5), wave)

    def test_an_access_with_itself(self):
        kernel = Kernel(40, [("put", (1, 38, 4, 3), "x", 0, 5, 1, 0), ("move", (0, 40, 1, 0), "y", 0, 1, "x", 0, 2, 0)])
        lanes = lanes_of((1, 38, 4, 3))
        self.assertEqual(len(lanes), 9)
        for wave in WAVES:
            self.assertEqual(count_races(kernel, 0, 0, wave), 36)
            self.assertEqual(nth_race(kernel, 0, 0, 8, wave), (lanes[1], lanes[2]))
            self.assertIs(is_race(kernel, 0, 0, lanes[0], lanes[1], wave), True)
            self.assertIs(is_race(kernel, 0, 0, lanes[1], lanes[0], wave), False)
            self.assertEqual(count_races(kernel, 1, 1, wave), 0)
            self.assertEqual(count_races(kernel, 2, 2, wave), 780)
        self.assertEqual(count_races(Kernel(10, [("put", FEW, "x", 1, 5, 0, 0)]), 0, 0), 0)
        self.assertIsNone(first_race(Kernel(10, [("put", FEW, "x", -1, 5, 0, 0)]), 0, 0))

    def test_two_accesses_of_one_statement(self):
        shift = Kernel(10, [("move", FEW, "x", 1, 0, "x", 1, 1, 0)])
        self.assertEqual([nth_race(shift, 0, 1, number) for number in range(9)], [(i, i + 1) for i in range(9)])
        self.assertEqual([nth_race(shift, 0, 1, number, 4) for number in range(2)], [(3, 4), (7, 8)])
        self.assertEqual([count_races(shift, 0, 1, wave) for wave in (1, 4, 10)], [9, 2, 0])
        self.assertEqual(count_races(Kernel(10, [("move", FEW, "x", 1, 0, "x", 1, 0, 0)]), 0, 1), 0)

    def test_unlike_arrays_two_reads_and_other_phases(self):
        unlike = Kernel(10, [("put", FEW, "x", 1, 0, 1, 0), ("put", FEW, "y", 1, 1, 1, 0)])
        reads = Kernel(10, [("move", FEW, "y", 1, 0, "x", 1, 0, 0), ("move", FEW, "z", 1, 0, "x", 1, 1, 0)])
        phases = two_puts(10, FEW, 1, 0, FEW, 1, 1, [1])
        for kernel, e, f in ((unlike, 0, 1), (reads, 0, 2), (phases, 0, 1)):
            self.assertEqual(count_races(kernel, e, f), 0)
            self.assertIsNone(first_race(kernel, e, f))
            self.assertIs(is_race(kernel, e, f, 1, 0), False)
            self.assertEqual(total_races(kernel), 0)
        same = phases.with_barriers([])
        self.assertEqual((count_races(same, 0, 1), first_race(same, 0, 1)), (9, (1, 0)))
        self.assertIs(is_race(same, 0, 1, 1, 0), True)

    def test_kernel_without_statements(self):
        self.assertEqual(total_races(Kernel(7, [])), 0)
        self.assertEqual(total_races(Kernel(7, []), 32), 0)

    def test_kernel_stays_and_arguments_by_name(self):
        kernel = two_puts(10, FEW, 2, 0, FEW, 3, 1, [])
        copy = Kernel(kernel.lanes, kernel.statements, kernel.barriers)
        self.assertEqual(count_races(f=1, e=0, wave=4, kernel=kernel), 2)
        self.assertEqual(count_races(f=1, e=0, kernel=kernel), 3)
        self.assertEqual(first_race(wave=4, f=1, e=0, kernel=kernel), (5, 3))
        self.assertEqual(first_race(f=1, e=0, kernel=kernel), (2, 1))
        self.assertEqual(nth_race(wave=4, number=1, f=1, e=0, kernel=kernel), (8, 5))
        self.assertEqual(nth_race(number=1, f=1, e=0, kernel=kernel), (5, 3))
        self.assertIs(is_race(wave=4, j=1, i=2, f=1, e=0, kernel=kernel), False)
        self.assertIs(is_race(j=1, i=2, f=1, e=0, kernel=kernel), True)
        self.assertEqual(total_races(wave=4, kernel=kernel), 2)
        self.assertEqual(total_races(kernel=kernel), 3)
        self.assertEqual(kernel, copy)


class FarTest(Case):
    def races_by_number(self, kernel, e, f, wave, numbers):
        """Races with some ascending numbers are races, ascend, and have as many ahead of them as the numbers tell."""
        many = count_races(kernel, e, f, wave)
        found = []
        for number in numbers:
            if 0 <= number < many:
                pair = nth_race(kernel, e, f, number, wave)
                self.assertIs(is_race(kernel, e, f, *pair, wave), True)
                found.append(pair)
                ahead, up_to = [self.cut_below(kernel, e, f, end, wave) for end in (pair[0], pair[0] + 1)]
                self.assertTrue(ahead <= number < up_to)
        self.assertEqual(found, sorted(set(found)))
        self.assertEqual(first_race(kernel, e, f, wave), nth_race(kernel, e, f, 0, wave) if many else None)
        self.refuses(InvalidNumber, many, nth_race, kernel, e, f, many, wave)

    @staticmethod
    def cut_below(kernel, e, f, end, wave):
        """The races of two accesses of different statements whose first lane is below an end."""
        statements, found = kernel.statements, accesses(kernel)
        u = found[e][0]
        low, high, step, rest = statements[u][1]
        guard = (min(low, end), max(min(low, end), min(high, end)), step, rest)
        statements[u] = (statements[u][0], guard, *statements[u][2:])
        return count_races(Kernel(kernel.lanes, statements, kernel.barriers), e, f, wave)

    def test_example(self):
        self.assertEqual(count_races(FAR, 0, 1), (GREAT - 2 + 2) // 3)
        self.assertEqual(nth_race(FAR, 0, 1, 10 ** 29), (3 * 10 ** 29 + 2, 2 * 10 ** 29 + 1))
        self.races_by_number(FAR, 0, 1, 1, [0, 1, 2, 10 ** 9, 10 ** 29, count_races(FAR, 0, 1) - 1])
        for wave in WAVES:
            together = [t for t in range(40) if (3 * t + 2) // wave == (2 * t + 1) // wave]
            self.assertEqual(count_races(FAR, 0, 1, wave), count_races(FAR, 0, 1) - len(together))
            self.races_by_number(FAR, 0, 1, wave, [0, 1, 2, 3, 10, 11, 12, 40, 10 ** 29])

    def test_shifts_with_waves(self):
        for lanes in (GREAT, GREAT + 17):
            for shift in (1, 3, -1, -5, 31, 32, -32, 10 ** 20):
                kernel = two_puts(lanes, (0, lanes, 1, 0), 1, 0, (0, lanes, 1, 0), 1, shift)
                for wave in WAVES:
                    together = (lanes // wave * max(0, wave - abs(shift)) + max(0, lanes % wave - abs(shift)))
                    self.assertEqual(count_races(kernel, 0, 1, wave), lanes - abs(shift) - together)
                    self.races_by_number(kernel, 0, 1, wave, [0, 1, 5, 10 ** 20, 10 ** 28, 10 ** 28 + 1])

    def test_the_same_cell_of_each_lane(self):
        self.assertEqual(total_races(two_puts(GREAT, MANY, 1, 0, MANY, 1, 0)), 0)
        self.assertEqual(total_races(two_puts(GREAT, MANY, -7, 9, MANY, -7, 9), 32), 0)

    def test_one_cell(self):
        for lanes in (GREAT, GREAT + 17):
            every = (0, lanes, 1, 0)
            kernel = two_puts(lanes, every, 0, 5, every, 0, 5)
            for wave in WAVES:
                together = lanes // wave * wave ** 2 + (lanes % wave) ** 2
                self.assertEqual(count_races(kernel, 0, 1, wave), lanes ** 2 - together)
                self.assertEqual(count_races(kernel, 0, 0, wave), lanes * (lanes - 1) // 2)
                self.assertEqual(total_races(kernel, wave), lanes ** 2 - together + lanes * (lanes - 1))
            self.races_by_number(kernel, 0, 1, 1, [0, lanes - 2, lanes - 1, 10 ** 45, lanes ** 2 - lanes - 1])
            self.races_by_number(kernel, 0, 1, 32, [0, 1, lanes - 33, lanes - 32, 10 ** 58 + 7])
            self.assertEqual(nth_race(kernel, 0, 0, 0), (0, 1))
            self.assertEqual(nth_race(kernel, 0, 0, lanes - 2), (0, lanes - 1))
            self.assertEqual(nth_race(kernel, 0, 0, lanes - 1), (1, 2))
            last = lanes * (lanes - 1) // 2 - 1
            self.assertEqual(nth_race(kernel, 0, 0, last), (lanes - 2, lanes - 1))
            self.assertEqual(nth_race(kernel, 0, 0, last - 1), (lanes - 3, lanes - 1))
            self.refuses(InvalidNumber, last + 1, nth_race, kernel, 0, 0, last + 1)

    def test_one_cell_with_steps(self):
        kernel = two_puts(GREAT, (0, GREAT, 4, 1), 0, 5, (0, GREAT, 6, 3), 0, 5)
        quarters, sixths = GREAT // 4, GREAT // 6 + 1
        self.assertEqual(count_races(kernel, 0, 1), quarters * sixths - ((GREAT - 9 - 1) // 12 + 1))
        # Waves of 12 lanes hold 1, 5, 9 and 3, 9; the last, shorter one 1 and 3 (10 ** 30 is 4 more than a multiple).
        self.assertEqual(GREAT % 12, 4)
        self.assertEqual(count_races(kernel, 0, 1, 12), quarters * sixths - GREAT // 12 * 6 - 1)
        self.races_by_number(kernel, 0, 1, 12, [0, 1, sixths - 3, sixths - 2, sixths - 1, 10 ** 57])

    def test_one_cell_on_one_side(self):
        kernel = two_puts(GREAT, (7, GREAT, 3, 2), 0, 6 * 10 ** 20, (0, GREAT, 5, 0), 3, 0)
        lanes = (GREAT - 8 - 1) // 3 + 1
        self.assertEqual(count_races(kernel, 0, 1), lanes - 1)
        self.assertEqual(2 * 10 ** 20 % 3, 2)
        self.assertEqual(2 * 10 ** 20 % 32, 0)
        self.assertEqual(count_races(kernel, 0, 1, 32), lanes - 11)
        self.races_by_number(kernel, 0, 1, 32, [0, 1, 10 ** 19, 10 ** 20, 10 ** 28])
        mirrored = two_puts(GREAT, (0, GREAT, 5, 0), 3, 0, (7, GREAT, 3, 2), 0, 6 * 10 ** 20)
        self.assertEqual(count_races(mirrored, 0, 1, 32), lanes - 11)
        self.races_by_number(mirrored, 0, 1, 32, [0, 1, 10 ** 19, 10 ** 20, 10 ** 28])
        self.assertEqual(nth_race(mirrored, 0, 1, 0), (2 * 10 ** 20, 8))

    def test_great_slopes(self):
        one, other = 10 ** 9 + 7, 10 ** 9 + 9
        kernel = two_puts(GREAT, MANY, one, 0, MANY, other, 0)
        self.assertEqual(count_races(kernel, 0, 1), (GREAT - 1) // other)
        self.assertEqual(nth_race(kernel, 0, 1, 10 ** 15), ((10 ** 15 + 1) * other, (10 ** 15 + 1) * one))
        together = [t for t in range(1, 40) if t * one // 32 == t * other // 32]
        self.assertGreater(len(together), 0)
        self.assertEqual(count_races(kernel, 0, 1, 32), (GREAT - 1) // other - len(together))
        against = two_puts(GREAT, MANY, one, 0, MANY, -other, one * other * 10 ** 8)
        self.assertEqual(count_races(against, 0, 1), 10 ** 8 + 1)
        self.assertEqual(nth_race(against, 0, 1, 3), (3 * other, (10 ** 8 - 3) * one))
        self.assertEqual(count_races(two_puts(GREAT, MANY, 6 * one, 1, MANY, 9 * one, 0), 0, 1), 0)

    def test_slopes_and_steps_by_remainders(self):
        chance = random.Random(6)
        found = 0
        for _ in range(60):
            a, other_a = [chance.choice((1, -1)) * chance.randint(1, 10 ** 9) for _ in range(2)]
            step, other_step = chance.randint(1, 10 ** 9), chance.randint(1, 10 ** 9)
            i, j = chance.randrange(GREAT), chance.randrange(GREAT)
            guard, other = (0, GREAT, step, i % step), (0, GREAT, other_step, j % other_step)
            kernel = two_puts(GREAT, guard, a, 0, other, other_a, a * i - other_a * j)
            # Moving i by this much and j by its part of it is the least move to another pair.
            common = gcd(a, other_a)
            turns = [own_step // gcd(own_step, factor) for own_step, factor
                     in ((step, other_a // common), (other_step, a // common))]
            times = turns[0] * turns[1] // gcd(*turns)
            moves = [abs(other_a) // common * times, abs(a) // common * times]
            rise = 1 if a * other_a > 0 else -1
            back = min(i // moves[0], (j if rise > 0 else GREAT - 1 - j) // moves[1])
            forth = min((GREAT - 1 - i) // moves[0], (GREAT - 1 - j if rise > 0 else j) // moves[1])
            self.assertEqual(count_races(kernel, 0, 1), back + forth + 1)
            self.assertEqual(nth_race(kernel, 0, 1, back), (i, j))
            self.races_by_number(kernel, 0, 1, 1, [0, 1, back - 1, back, back + 1, back + forth])
            found += back + forth
        self.assertGreater(found, 0)

    def test_against_each_other(self):
        for lanes in (GREAT, GREAT + 1, GREAT + 6):
            every = (0, lanes, 1, 0)
            kernel = two_puts(lanes, every, 1, 0, every, -1, lanes - 1)
            for wave in WAVES:
                together = [i for i in range(lanes // 2 - 50, lanes // 2 + 50) if i // wave == (lanes - 1 - i) // wave]
                self.assertEqual(count_races(kernel, 0, 1, wave), lanes - len(together))
                self.races_by_number(kernel, 0, 1, wave, [0, 1, 10 ** 29, lanes // 2 - 20, lanes // 2, lanes // 2 + 9])

    def test_guards_cut_in_two_add_up(self):
        chance = random.Random(7)
        for kernel in small_kernels(8, 40, most_statements=2):
            if len(kernel) < 2:
                continue
            statements = [(word, (0, GREAT, chance.randint(1, 40), 0), *items)
                          for word, _, *items in kernel.statements]
            whole = Kernel(GREAT, statements)
            first, rest = statements[0], statements[1:]
            step = first[1][2]
            for place in (0, 1, 31, 64, 10 ** 9, chance.randrange(GREAT), GREAT):
                parts = [Kernel(GREAT, [(first[0], guard, *first[2:]), *rest])
                         for guard in ((0, place, step, 0), (place, GREAT, step, 0))]
                for e, f in pairs_of_accesses(whole):
                    if accesses(whole)[e][0] != accesses(whole)[f][0]:
                        for wave in (1, 7, 32):
                            self.assertEqual(count_races(whole, e, f, wave),
                                             sum(count_races(part, e, f, wave) for part in parts))

    def test_mirrored_kernels(self):
        for kernel in small_kernels(9, 40, most_statements=3):
            far = Kernel(GREAT, [(word, (low * 10 ** 20, GREAT - low, step, rest), *items)
                                 for word, (low, _, step, rest), *items in kernel.statements])
            mirrored = far.mirrored()
            for e, f in pairs_of_accesses(far):
                # 10 ** 30 is a multiple of 2 and 32, so mirroring keeps these waves.
                for wave in (1, 2, 32):
                    many = count_races(far, e, f, wave)
                    self.assertEqual(count_races(mirrored, e, f, wave), many)
                    if many > 0:
                        i, j = [GREAT - 1 - lane for lane in nth_race(far, e, f, many // 2, wave)]
                        if e == f:
                            i, j = j, i
                        self.assertIs(is_race(mirrored, e, f, i, j, wave), True)
            for wave in (1, 2, 32):
                self.assertEqual(total_races(mirrored, wave), total_races(far, wave))

    def test_small_kernels_far_away(self):
        start = 32 * 31 * 5 * 3 * 10 ** 25
        for number, kernel in enumerate(small_kernels(10, 80, most_lanes=40, most_statements=2)):
            wave = WAVES[number % len(WAVES)]
            statements = []
            for statement in kernel.statements:
                items = list(statement)
                low, high, step, rest = items[1]
                items[1] = (start + low, start + high, step, (start + rest) % step)
                for place in {"put": (3,), "move": (3, 6), "sum": (3, 6, 9)}[items[0]]:
                    items[place + 1] -= items[place] * start
                statements.append(tuple(items))
            far = Kernel(GREAT, statements, kernel.barriers)
            for e, f in pairs_of_accesses(kernel):
                found = [(start + i, start + j) for i, j, _ in races(kernel, e, f, wave)]
                self.assertEqual(count_races(far, e, f, wave), len(found))
                self.assertEqual([nth_race(far, e, f, place, wave) for place in range(min(20, len(found)))], found[:20])

    def test_many_statements(self):
        statements = [("sum", MANY, "x", 0, 5, "x", 0, 5, "x", 0, 5)] * 12
        kernel = Kernel(GREAT, statements)
        # Of 36 accesses 12 write: 12 pairs of one access, 66 of two writes, 288 of a read and a write.
        self.assertEqual(total_races(kernel), (66 + 288) * (GREAT ** 2 - GREAT) + 12 * GREAT * (GREAT - 1) // 2)


class ErrorsTest(Case):
    def test_pair_check(self):
        calls = [lambda e, f: count_races(SMALL, e, f), lambda e, f: first_race(SMALL, e, f),
                 lambda e, f: nth_race(SMALL, e, f, 0), lambda e, f: is_race(SMALL, e, f, 0, 1)]
        cases = [(-1, 0, -1), (3, 0, 3), (GREAT, -1, GREAT), (-GREAT, 9, -GREAT), (0, 3, 3), (0, -1, -1), (2, -1, -1),
                 (1, GREAT, GREAT), (1, 0, 0), (2, 1, 1), (2, 0, 0)]
        for call in calls:
            for e, f, value in cases:
                self.refuses(InvalidAccess, value, call, e, f)
        self.refuses(InvalidAccess, 0, count_races, Kernel(3, []), 0, 0)

    def test_pair_check_is_ahead_of_the_wave(self):
        for e, f, value in ((3, 0, 3), (0, -1, -1), (2, 1, 1)):
            for wave in NO_WAVES:
                self.refuses(InvalidAccess, value, count_races, SMALL, e, f, wave)
                self.refuses(InvalidAccess, value, first_race, SMALL, e, f, wave)
                self.refuses(InvalidAccess, value, nth_race, SMALL, e, f, -7, wave)
                self.refuses(InvalidAccess, value, is_race, SMALL, e, f, 0, 1, wave)

    def test_wave_check(self):
        self.refuses_waves(InvalidNumber, count_races, SMALL, 0, 1)
        self.refuses_waves(InvalidNumber, first_race, SMALL, 0, 1)
        self.refuses_waves(InvalidNumber, nth_race, SMALL, 0, 1, 0)
        self.refuses_waves(InvalidNumber, is_race, SMALL, 0, 1, 2, 1)
        self.refuses_waves(InvalidNumber, total_races, SMALL)
        self.refuses_waves(InvalidNumber, total_races, Kernel(3, []))
        # Also where no race could count.
        self.refuses_waves(InvalidNumber, count_races, SMALL, 0, 2)
        self.refuses_waves(InvalidNumber, is_race, SMALL, 0, 2, -1, -1)

    def test_number_of_a_race(self):
        for number in (-1, -2, -GREAT):
            for wave in (1, 32, 0, 33, -5):
                self.refuses(InvalidNumber, number, nth_race, SMALL, 0, 1, number, wave)
        for number in (3, 4, GREAT):
            self.refuses(InvalidNumber, number, nth_race, SMALL, 0, 1, number)
            self.refuses(InvalidNumber, number, nth_race, SMALL, 0, 1, number, 32)
            for wave in NO_WAVES:
                self.refuses(InvalidNumber, wave, nth_race, SMALL, 0, 1, number, wave)
        self.refuses(InvalidNumber, 2, nth_race, SMALL, 0, 1, 2, 4)
        self.refuses(InvalidNumber, 0, nth_race, SMALL, 0, 2, 0)

    def test_races_in_any_phase_of_the_tests(self):
        # The tests go by this list elsewhere; it has races that the barrier takes away.
        kernel = two_puts(10, FEW, 1, 0, FEW, 1, 1, [1])
        self.assertEqual(len(races_in_any_phase(kernel, 0, 1, 1)), 9)
        self.assertEqual(races(kernel, 0, 1, 1), [])
