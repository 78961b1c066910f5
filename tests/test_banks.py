"""Points 2, 3, 7 and 9: memory banks."""

import random
from collections import Counter
from math import gcd

from plain import Case, FEW, GREAT, MANY, NO_WAVES, lanes_of, small_kernels
from stridelanes import banks as module
from stridelanes.banks import count_lengths, degree_of_wave, greatest_degree, least_length, total_degree
from stridelanes.errors import InvalidAccess, InvalidNumber
from stridelanes.kernels import Kernel, accesses

EXAMPLE = Kernel(10, [("put", FEW, "x", 2, 0, 1, 0), ("move", FEW, "y", 1, 0, "x", 3, 1, 0)])
NO_BANKS = (0, -1, 4097, 4098, GREAT, -GREAT)


def one_put(lanes, guard, a, b):
    return Kernel(lanes, [("put", guard, "x", a, b, 0, 0)])


def degree_of_cells(cells, banks):
    return max(Counter(cell % banks for cell in set(cells)).values(), default=0)


def degrees_one_by_one(kernel, access, wave, banks):
    statement, _, _, a, b = accesses(kernel)[access]
    lanes = lanes_of(kernel.statements[statement][1])
    return [degree_of_cells([a * lane + b for lane in lanes if lane // wave == number], banks)
            for number in range((kernel.lanes + wave - 1) // wave)]


def free_lengths(wave, banks, end):
    return [length for length in range(1, end) if degree_of_cells([length * lane for lane in range(wave)], banks) == 1]


class SmallTest(Case):
    def agrees(self, kernel, access, wave, banks):
        found = degrees_one_by_one(kernel, access, wave, banks)
        with self.subTest(lanes=kernel.lanes, statements=kernel.statements, access=access, wave=wave, banks=banks):
            self.assertEqual([degree_of_wave(kernel, access, wave, banks, number) for number in range(len(found))],
                             found)
            self.assertEqual(total_degree(kernel, access, wave, banks), sum(found))
            self.assertEqual(greatest_degree(kernel, access, wave, banks), max(found))

    def test_examples_of_the_document(self):
        self.assertEqual(total_degree(EXAMPLE, 0, 4, 4), 5)
        self.assertEqual(greatest_degree(EXAMPLE, 0, 4, 4), 2)
        self.assertEqual(least_length(4, 8, 8), 9)
        self.assertEqual(count_lengths(4, 8, 8, 15), 6)

    def test_functions_are_defined_in_this_file(self):
        self.defined_in(module, "degree_of_wave", "total_degree", "greatest_degree", "least_length", "count_lengths")

    def test_all_accesses_of_small_kernels(self):
        chance = random.Random(51)
        for kernel in small_kernels(52, 250, most_lanes=80, most_statements=2, slopes=(0, 1, 3, 9)):
            for access in range(len(accesses(kernel))):
                self.agrees(kernel, access, chance.randint(1, 32), chance.choice((1, 2, 3, 4, 8, 12, 32, 64, 4096)))

    def test_slopes_and_banks(self):
        for a in range(-8, 9):
            for guard in ((0, 40, 1, 0), (3, 38, 3, 1), (1, 40, 4, 3)):
                for banks in (1, 2, 4, 6, 7, 8, 12):
                    for wave in (1, 4, 7, 32):
                        self.agrees(one_put(40, guard, a, -5), 0, wave, banks)

    def test_steps_and_waves(self):
        for step in (1, 2, 3, 4, 5, 6, 9, 12, 31, 32, 33, 50):
            for rest in {0, step - 1}:
                for wave in (1, 2, 3, 4, 6, 8, 9, 12, 31, 32):
                    self.agrees(one_put(75, (3, 74, step, rest), 1, -20), 0, wave, 4)
                    self.agrees(one_put(75, (0, 75, step, rest), -2, 3), 0, wave, 6)

    def test_unlike_waves(self):
        # Waves of 4 lanes have 2, 1, 1 lanes of the guard, and so again.
        kernel = one_put(24, (0, 24, 3, 0), 1, 0)
        self.assertEqual([degree_of_wave(kernel, 0, 4, 1, number) for number in range(6)], [2, 1, 1, 2, 1, 1])
        self.assertEqual((total_degree(kernel, 0, 4, 1), greatest_degree(kernel, 0, 4, 1)), (8, 2))

    def test_one_cell_of_all_lanes(self):
        kernel = one_put(21, (2, 19, 1, 0), 0, -7)
        for banks in (1, 2, 32):
            self.agrees(kernel, 0, 8, banks)
            self.assertEqual((total_degree(kernel, 0, 8, banks), greatest_degree(kernel, 0, 8, banks)), (3, 1))

    def test_all_accesses_of_many_statements(self):
        for number, kernel in enumerate(small_kernels(57, 30, most_lanes=40, most_statements=12)):
            for access in range(len(accesses(kernel))):
                self.agrees(kernel, access, (1, 3, 4, 32)[number % 4], (1, 2, 5, 8, 32)[access % 5])

    def test_guards_without_lanes(self):
        for guard in ((0, 0, 1, 0), (8, 8, 1, 0), (21, 21, 1, 0), (5, 6, 7, 4), (8, 9, 2, 1), (3, 3, 40, 0)):
            for a in (-1, 0, 2):
                for wave in (1, 4, 32):
                    self.agrees(one_put(21, guard, a, 3), 0, wave, 8)
                    self.assertEqual(greatest_degree(one_put(21, guard, a, 3), 0, wave, 8), 0)

    def test_kernel_stays_and_arguments_by_name(self):
        copy = Kernel(EXAMPLE.lanes, EXAMPLE.statements, EXAMPLE.barriers)
        self.assertEqual(degree_of_wave(number=2, banks=4, wave=4, access=0, kernel=EXAMPLE), 1)
        self.assertEqual(total_degree(banks=4, wave=4, access=0, kernel=EXAMPLE), 5)
        self.assertEqual(greatest_degree(banks=4, wave=4, access=0, kernel=EXAMPLE), 2)
        self.assertEqual(least_length(length=8, banks=8, wave=4), 9)
        self.assertEqual(count_lengths(high=15, low=8, banks=8, wave=4), 6)
        self.assertEqual(EXAMPLE, copy)


class FarTest(Case):
    def test_all_lanes(self):
        for a, degree in ((1, 1), (2, 2), (-2, 2), (3, 1), (32, 32), (33, 1), (48, 16), (10 ** 9, 32),
                          (10 ** 9 + 8, 8)):
            kernel = one_put(GREAT, MANY, a, -GREAT)
            self.assertEqual(total_degree(kernel, 0, 32, 32), GREAT // 32 * degree)
            self.assertEqual(greatest_degree(kernel, 0, 32, 32), degree)
            self.assertEqual(degree_of_wave(kernel, 0, 32, 32, 10 ** 28), degree)

    def test_great_steps(self):
        kernel = one_put(GREAT, (0, GREAT, 10 ** 9, 5), 6, 1)
        self.assertEqual(total_degree(kernel, 0, 32, 32), 10 ** 21)
        self.assertEqual(greatest_degree(kernel, 0, 32, 32), 1)
        self.assertEqual(degree_of_wave(kernel, 0, 32, 32, 10 ** 9), 1)
        self.assertEqual(degree_of_wave(kernel, 0, 32, 32, 10 ** 9 + 1), 0)

    def test_one_period_tells_the_sum(self):
        chance = random.Random(53)
        for _ in range(300):
            wave, step, banks = chance.randint(1, 32), chance.randint(1, 40), chance.choice((1, 2, 3, 8, 12, 32, 60))
            a, b = chance.randint(-10 ** 20, 10 ** 20) * chance.choice((1, 2, 4, 15)), chance.randint(-GREAT, GREAT)
            times = chance.randint(1, 10 ** 25)
            period = wave * step
            small = one_put(period, (0, period, step, step // 2), a, b)
            far = one_put(times * period, (0, times * period, step, step // 2), a, b)
            self.assertEqual(total_degree(far, 0, wave, banks), times * sum(degrees_one_by_one(small, 0, wave, banks)))
            self.assertEqual(greatest_degree(far, 0, wave, banks), max(degrees_one_by_one(small, 0, wave, banks)))

    def test_cut_at_the_begin_of_a_wave(self):
        chance = random.Random(54)
        for _ in range(200):
            wave, step, banks = chance.randint(1, 32), chance.randint(1, 33), chance.randint(1, 64)
            a, b = chance.randint(-20, 20), chance.randint(-GREAT, GREAT)
            place, rest = wave * chance.randrange(10 ** 28), chance.randrange(step)
            parts = [one_put(GREAT, guard, a, b) for guard in ((7, place, step, rest), (place, GREAT - 9, step, rest))]
            whole = one_put(GREAT, (7, GREAT - 9, step, rest), a, b)
            self.assertEqual(total_degree(whole, 0, wave, banks),
                             sum(total_degree(part, 0, wave, banks) for part in parts))
            self.assertEqual(greatest_degree(whole, 0, wave, banks),
                             max(greatest_degree(part, 0, wave, banks) for part in parts))

    def test_a_few_far_waves(self):
        chance = random.Random(55)
        for _ in range(200):
            wave, step, banks = chance.randint(3, 32), chance.randint(1, 9), chance.randint(1, 32)
            a, b, first = chance.randint(-20, 20), chance.randint(-GREAT, GREAT), chance.randrange(10 ** 28)
            guard = (wave * first + 1, wave * (first + 4) - 2, step, 0)
            kernel = one_put(GREAT, guard, a, b)
            found = [degree_of_cells([a * lane + b for lane in range(wave * number, wave * number + wave)
                                      if guard[0] <= lane < guard[1] and lane % step == 0], banks)
                     for number in range(first, first + 4)]
            self.assertEqual([degree_of_wave(kernel, 0, wave, banks, first + number) for number in range(4)], found)
            self.assertEqual((total_degree(kernel, 0, wave, banks), greatest_degree(kernel, 0, wave, banks)),
                             (sum(found), max(found)))


class LengthsTest(Case):
    def test_against_the_cells_of_a_wave(self):
        for banks in (*range(1, 20), 24, 30, 32, 36):
            for wave in (1, 2, 3, 4, 5, 8, 12, 16, 31, 32):
                free = free_lengths(wave, banks, 3 * banks + 3)
                for length in range(1, 2 * banks + 2):
                    self.assertEqual(least_length(wave, banks, length), next((at for at in free if at >= length), None))
                    for high in (length, length + 1, length + banks // 2, length + banks):
                        self.assertEqual(count_lengths(wave, banks, length, high),
                                         len([at for at in free if length <= at <= high]))

    def test_more_lanes_than_banks(self):
        for wave, banks in ((2, 1), (32, 31), (9, 8), (32, 1)):
            self.assertIsNone(least_length(wave, banks, 1))
            self.assertIsNone(least_length(wave, banks, GREAT))
            self.assertEqual(count_lengths(wave, banks, 1, GREAT), 0)

    def test_as_many_lanes_as_banks(self):
        self.assertEqual([least_length(32, 32, length) for length in (1, 2, 31, 32, 33)], [1, 3, 31, 33, 33])
        self.assertEqual(count_lengths(32, 32, 1, GREAT), GREAT // 2)
        self.assertEqual(least_length(1, 1, 7), 7)
        self.assertEqual(count_lengths(1, 1, 1, GREAT), GREAT)

    def test_far_lengths(self):
        self.assertEqual(least_length(32, 32, GREAT), GREAT + 1)
        self.assertEqual(least_length(32, 64, GREAT - 2), GREAT - 2)
        self.assertEqual(least_length(32, 4095, GREAT), next(at for at in free_far(4095, GREAT, 127)))
        for wave, banks in ((32, 4096), (17, 4095), (31, 2310), (3, 30), (32, 1001)):
            period = [at for at in free_far(banks, 1, banks // wave, banks)]
            self.assertEqual(count_lengths(wave, banks, 1, banks * 10 ** 26), len(period) * 10 ** 26)
            self.assertEqual(count_lengths(wave, banks, GREAT, GREAT + banks - 1), len(period))
            self.assertEqual(least_length(wave, banks, GREAT), next(at for at in free_far(banks, GREAT, banks // wave)))

    def test_the_least_and_the_count_agree(self):
        chance = random.Random(56)
        for _ in range(60):
            wave, banks, length = chance.randint(1, 32), chance.randint(32, 4096), chance.randint(1, GREAT)
            least = least_length(wave, banks, length)
            self.assertEqual(count_lengths(wave, banks, length, least), 1)
            if least > length:
                self.assertEqual(count_lengths(wave, banks, length, least - 1), 0)

    def test_many_banks_of_all_kinds(self):
        # Without common divisors, with many of them, and with squares of primes; looked at by one period.
        for banks in (4096, 4095, 4093, 2310, 2520, 3600, 961):
            for wave in (1, 2, 3, 7, 31, 32):
                free = [length for length in range(1, 2 * banks + 1) if gcd(length, banks) * wave <= banks]
                for low in (1, 2, banks // 2, banks - 1, banks):
                    self.assertEqual(least_length(wave, banks, low), next(length for length in free if length >= low))
                    for high in (low, low + 30, low + banks // 3, low + banks):
                        many = len([length for length in free if low <= length <= high])
                        self.assertEqual(count_lengths(wave, banks, low, high), many)
                        turns = 10 ** 26 * banks
                        self.assertEqual(count_lengths(wave, banks, low + turns, high + turns), many)


def free_far(banks, low, most, many=200):
    """The lengths from low on, so many looked at, whose greatest common divisor with the banks is at most most."""
    for length in range(low, low + many):
        if all(length % part or banks % part for part in range(most + 1, banks + 1)):
            yield length


class ErrorsTest(Case):
    def test_access_check(self):
        for access in (-1, 3, 4, GREAT, -GREAT):
            for wave in (4, *NO_WAVES):
                for banks in (8, 0, 4097):
                    self.refuses(InvalidAccess, access, degree_of_wave, EXAMPLE, access, wave, banks, -1)
                    self.refuses(InvalidAccess, access, total_degree, EXAMPLE, access, wave, banks)
                    self.refuses(InvalidAccess, access, greatest_degree, EXAMPLE, access, wave, banks)

    def test_wave_check(self):
        for wave in NO_WAVES:
            for banks in (8, *NO_BANKS):
                self.refuses(InvalidNumber, wave, degree_of_wave, EXAMPLE, 1, wave, banks, -7)
                self.refuses(InvalidNumber, wave, total_degree, EXAMPLE, 1, wave, banks)
                self.refuses(InvalidNumber, wave, greatest_degree, EXAMPLE, 1, wave, banks)
                self.refuses(InvalidNumber, wave, least_length, wave, banks, -9)
                self.refuses(InvalidNumber, wave, count_lengths, wave, banks, -9, -10)

    def test_banks_check(self):
        for banks in NO_BANKS:
            for number in (0, -7, 3):
                self.refuses(InvalidNumber, banks, degree_of_wave, EXAMPLE, 1, 4, banks, number)
            self.refuses(InvalidNumber, banks, total_degree, EXAMPLE, 1, 4, banks)
            self.refuses(InvalidNumber, banks, greatest_degree, EXAMPLE, 1, 4, banks)
            for length in (5, 0, -9):
                self.refuses(InvalidNumber, banks, least_length, 4, banks, length)
                self.refuses(InvalidNumber, banks, count_lengths, 4, banks, length, length - 1)
        for banks in (1, 4096):
            self.assertEqual(least_length(1, banks, 1), 1)
            self.assertEqual(greatest_degree(EXAMPLE, 0, 1, banks), 1)

    def test_number_of_a_wave(self):
        for number in (-1, 3, 4, GREAT, -GREAT):
            self.refuses(InvalidNumber, number, degree_of_wave, EXAMPLE, 1, 4, 8, number)
        self.assertEqual([degree_of_wave(EXAMPLE, 0, 4, 4, number) for number in range(3)], [2, 2, 1])

    def test_lengths(self):
        for length in (0, -1, -GREAT):
            self.refuses(InvalidNumber, length, least_length, 4, 8, length)
            # Also where no length is free of conflicts.
            self.refuses(InvalidNumber, length, least_length, 8, 4, length)
            self.refuses(InvalidNumber, length, count_lengths, 4, 8, length, 5)
            self.refuses(InvalidNumber, length, count_lengths, 4, 8, length, -7)
            self.refuses(InvalidNumber, length, count_lengths, 4, 8, 5, length)
            self.refuses(InvalidNumber, length, count_lengths, 8, 4, 5, length)
        for low, high in ((2, 1), (5, 3), (GREAT, GREAT - 1)):
            self.refuses(InvalidNumber, high, count_lengths, 4, 8, low, high)
            self.refuses(InvalidNumber, high, count_lengths, 8, 4, low, high)
        self.assertEqual(count_lengths(4, 8, 1, 1), 1)
        self.assertEqual(count_lengths(4, 8, 8, 8), 0)
