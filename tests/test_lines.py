"""Points 2, 3, 7 and 9: memory lines."""

import random

from plain import Case, FEW, GREAT, MANY, NO_WAVES, lanes_of, small_kernels
from stridelanes import lines as module
from stridelanes.errors import InvalidAccess, InvalidNumber
from stridelanes.kernels import Kernel, accesses
from stridelanes.lines import count_lines, lines_of_wave
from stridelanes.sums import sum_of_quotients

EXAMPLE = Kernel(10, [("put", FEW, "x", 2, 0, 1, 0), ("move", FEW, "y", 1, 0, "x", 3, 1, 0)])


def one_put(lanes, guard, a, b):
    return Kernel(lanes, [("put", guard, "x", a, b, 0, 0)])


def lines_one_by_one(kernel, access, wave, size):
    """For each wave, how many lines it touches."""
    statement, _, _, a, b = accesses(kernel)[access]
    lanes = lanes_of(kernel.statements[statement][1])
    return [len({(a * lane + b) // size for lane in lanes if lane // wave == number})
            for number in range((kernel.lanes + wave - 1) // wave)]


class SumsTest(Case):
    def test_against_the_definition(self):
        for many in (0, 1, 2, 5, 12):
            for divisor in (1, 2, 3, 7, 10):
                for factor in range(-12, 13):
                    for start in (-23, -7, -1, 0, 1, 4, 30):
                        self.assertEqual(sum_of_quotients(many, divisor, factor, start),
                                         sum((factor * k + start) // divisor for k in range(many)))

    def test_great_sums(self):
        self.assertEqual(sum_of_quotients(GREAT, 2, 1, 0), (GREAT // 2) * (GREAT // 2 - 1))
        self.assertEqual(sum_of_quotients(GREAT, GREAT, 1, 1), 1)


class SmallTest(Case):
    def agrees(self, kernel, access, wave, size):
        found = lines_one_by_one(kernel, access, wave, size)
        with self.subTest(lanes=kernel.lanes, statements=kernel.statements, access=access, wave=wave, size=size):
            self.assertEqual([lines_of_wave(kernel, access, wave, size, number) for number in range(len(found))], found)
            self.assertEqual(count_lines(kernel, access, wave, size), sum(found))

    def test_examples_of_the_document(self):
        self.assertEqual(count_lines(EXAMPLE, 1, 4, 8), 5)
        self.assertEqual(lines_of_wave(EXAMPLE, 1, 4, 8, 2), 1)

    def test_functions_are_defined_in_this_file(self):
        self.defined_in(module, "lines_of_wave", "count_lines")

    def test_all_accesses_of_small_kernels(self):
        chance = random.Random(41)
        for kernel in small_kernels(42, 250, most_lanes=80, most_statements=2, slopes=(0, 1, 3, 9)):
            for access in range(len(accesses(kernel))):
                self.agrees(kernel, access, chance.randint(1, 32), chance.choice((1, 2, 3, 4, 7, 8, 16, 50, 200)))

    def test_all_accesses_of_many_statements(self):
        for number, kernel in enumerate(small_kernels(43, 30, most_lanes=40, most_statements=12)):
            for access in range(len(accesses(kernel))):
                self.agrees(kernel, access, (1, 3, 4, 32)[number % 4], (1, 2, 5, 8, 32)[access % 5])

    def test_slopes_and_sizes(self):
        for a in range(-5, 6):
            for b in (-19, -4, 0, 3):
                for guard in ((0, 23, 1, 0), (2, 22, 3, 1), (1, 23, 4, 3)):
                    for size in (1, 2, 4, 5, 9, 30):
                        for wave in (1, 4, 7, 32):
                            self.agrees(one_put(23, guard, a, b), 0, wave, size)

    def test_steps_and_waves(self):
        for step in (1, 2, 3, 4, 5, 6, 9, 12, 31, 32, 33, 50):
            for rest in {0, step - 1}:
                for wave in (1, 2, 3, 4, 6, 8, 9, 12, 31, 32):
                    self.agrees(one_put(75, (3, 74, step, rest), 1, -20), 0, wave, 5)
                    self.agrees(one_put(75, (0, 75, step, rest), -2, 3), 0, wave, 24)

    def test_guards_without_lanes(self):
        for guard in ((0, 0, 1, 0), (8, 8, 1, 0), (21, 21, 1, 0), (5, 6, 7, 4), (8, 9, 2, 1)):
            for a in (-1, 0, 2):
                for wave in (1, 4, 32):
                    self.agrees(one_put(21, guard, a, 3), 0, wave, 8)
                    self.assertEqual(count_lines(one_put(21, guard, a, 3), 0, wave, 8), 0)

    def test_one_cell_of_all_lanes(self):
        kernel = one_put(21, (0, 21, 1, 0), 0, -7)
        self.assertEqual([count_lines(kernel, 0, wave, 8) for wave in (1, 4, 21, 32)], [21, 6, 1, 1])

    def test_negative_cells(self):
        kernel = one_put(8, (0, 8, 1, 0), 1, -4)
        self.assertEqual(count_lines(kernel, 0, 8, 4), 2)
        self.assertEqual(count_lines(kernel, 0, 8, 8), 2)
        self.assertEqual(count_lines(one_put(8, (0, 8, 1, 0), 1, -8), 0, 8, 8), 1)
        self.assertEqual(count_lines(one_put(8, (0, 8, 1, 0), -1, -1), 0, 8, 8), 1)

    def test_kernel_stays_and_arguments_by_name(self):
        copy = Kernel(EXAMPLE.lanes, EXAMPLE.statements, EXAMPLE.barriers)
        self.assertEqual(count_lines(size=8, wave=4, access=1, kernel=EXAMPLE), 5)
        self.assertEqual(lines_of_wave(number=2, size=8, wave=4, access=1, kernel=EXAMPLE), 1)
        self.assertEqual(EXAMPLE, copy)


class FarTest(Case):
    def test_all_lanes(self):
        for wave in (1, 4, 8, 32):
            self.assertEqual(count_lines(one_put(GREAT, MANY, 1, 0), 0, wave, 32), GREAT // wave)
            self.assertEqual(count_lines(one_put(GREAT, MANY, 1, -GREAT), 0, wave, 4), GREAT // min(wave, 4))
            # Neighbouring lines differ by one lane: each wave of more than one lane begins within a line.
            self.assertEqual(count_lines(one_put(GREAT, MANY, -1, 2), 0, wave, 4), GREAT // wave * ((wave + 6) // 4))
            self.assertEqual(count_lines(one_put(GREAT, MANY, 10 ** 9, 7), 0, wave, 10 ** 9), GREAT)
            self.assertEqual(count_lines(one_put(GREAT, MANY, 0, 7), 0, wave, 10 ** 9), GREAT // wave)

    def test_great_lines(self):
        for size in (10 ** 29, 10 ** 30, 10 ** 31):
            # The cells go through GREAT // size lines; each one that begins within a wave is touched once more.
            for b, more in ((0, 0), (16, 1), (31, 1)):
                self.assertEqual(10 ** 29 % 32, 0)
                self.assertEqual(count_lines(one_put(GREAT, MANY, 1, b), 0, 32, size),
                                 GREAT // 32 + more * max(1, GREAT // size) * (1 if size <= GREAT else 0))

    def test_one_period_tells_the_sum(self):
        chance = random.Random(43)
        for _ in range(150):
            wave, step, size = chance.randint(1, 32), chance.randint(1, 40), chance.randint(1, 60)
            a, b, times = chance.randint(-9, 9), chance.randint(-GREAT, GREAT), chance.randint(10 ** 20, 10 ** 25)
            # After so many lanes the places within waves, lines and guards come again.
            period = wave * step * size
            small = one_put(period, (0, period, step, step // 2), a, b)
            far = one_put(times * period, (0, times * period, step, step // 2), a, b)
            self.assertEqual(count_lines(far, 0, wave, size), times * count_lines(small, 0, wave, size))

    def test_common_divisors(self):
        factor = 10 ** 17 + 3
        for a, step, size, wave in ((6, 4, 9, 32), (-15, 3, 50, 31), (4, 7, 64, 32), (1, 1, 32, 32), (-1, 2, 3, 5)):
            period = wave * step * size
            small = one_put(period, (0, period, step, 0), a, -5)
            for times in (1, 10 ** 22):
                far = one_put(times * period, (0, times * period, step, 0), a * factor, -5 * factor)
                self.assertEqual(count_lines(far, 0, wave, size * factor), times * count_lines(small, 0, wave, size))

    def test_cut_at_the_begin_of_a_wave(self):
        chance = random.Random(44)
        for _ in range(100):
            wave, step = chance.randint(1, 32), chance.randint(1, 33)
            a, b, size = chance.randint(-10 ** 20, 10 ** 20), chance.randint(-GREAT, GREAT), chance.randint(1, 10 ** 22)
            place, rest = wave * chance.randrange(10 ** 28), chance.randrange(step)
            parts = [one_put(GREAT, guard, a, b) for guard in ((0, place, step, rest), (place, GREAT, step, rest))]
            self.assertEqual(count_lines(one_put(GREAT, (0, GREAT, step, rest), a, b), 0, wave, size),
                             sum(count_lines(part, 0, wave, size) for part in parts))

    def test_a_few_far_waves(self):
        chance = random.Random(45)
        for _ in range(100):
            wave, step = chance.randint(1, 32), chance.randint(1, 20)
            a, b, size = chance.randint(-10 ** 20, 10 ** 20), chance.randint(-GREAT, GREAT), chance.randint(1, 10 ** 21)
            first = chance.randrange(10 ** 28)
            low, high = (1, 2) if wave > 2 else (0, 0)
            guard = (wave * first + low, wave * (first + 5) - high, step, 0)
            kernel = one_put(GREAT, guard, a, b)
            found = []
            for number in range(first, first + 5):
                lanes = [lane for lane in range(wave * number, wave * number + wave)
                         if guard[0] <= lane < guard[1] and lane % step == 0]
                found.append(len({(a * lane + b) // size for lane in lanes}))
            self.assertEqual([lines_of_wave(kernel, 0, wave, size, first + number) for number in range(5)], found)
            self.assertEqual(count_lines(kernel, 0, wave, size), sum(found))


class ErrorsTest(Case):
    def test_access_check(self):
        for access in (-1, 3, 4, GREAT, -GREAT):
            for wave in (4, *NO_WAVES):
                for size in (8, 0):
                    self.refuses(InvalidAccess, access, count_lines, EXAMPLE, access, wave, size)
                    self.refuses(InvalidAccess, access, lines_of_wave, EXAMPLE, access, wave, size, -1)
        self.refuses(InvalidAccess, 0, count_lines, Kernel(3, []), 0, 4, 8)

    def test_wave_check(self):
        for wave in NO_WAVES:
            for size in (8, 0, -5):
                self.refuses(InvalidNumber, wave, count_lines, EXAMPLE, 1, wave, size)
                self.refuses(InvalidNumber, wave, lines_of_wave, EXAMPLE, 1, wave, size, -7)

    def test_size_check(self):
        for size in (0, -1, -8, -GREAT):
            self.refuses(InvalidNumber, size, count_lines, EXAMPLE, 1, 4, size)
            for number in (0, -7, 3, GREAT):
                self.refuses(InvalidNumber, size, lines_of_wave, EXAMPLE, 1, 4, size, number)
        self.assertEqual(count_lines(EXAMPLE, 1, 4, 1), 10)

    def test_number_of_a_wave(self):
        for number in (-1, 3, 4, GREAT, -GREAT):
            self.refuses(InvalidNumber, number, lines_of_wave, EXAMPLE, 1, 4, 8, number)
        self.assertEqual([lines_of_wave(EXAMPLE, 1, 4, 8, number) for number in range(3)], [2, 2, 1])
        self.refuses(InvalidNumber, 2, lines_of_wave, EXAMPLE, 1, 5, 8, 2)
