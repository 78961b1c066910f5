"""Points 2, 3 and 9: the waves of statements."""

from plain import Case, FEW, GREAT, NO_WAVES, lanes_of
from stridelanes import waves as module
from stridelanes.errors import InvalidNumber
from stridelanes.kernels import Kernel
from stridelanes.waves import count_waves, full_waves, lanes_in_wave

EXAMPLE = Kernel(21, [("put", (0, 21, 5, 0), "x", 1, 0, 0, 0), ("put", (3, 21, 1, 0), "x", 1, 0, 0, 0)])


def one_put(lanes, guard):
    return Kernel(lanes, [("put", (0, lanes, 1, 0), "x", 1, 0, 0, 0), ("put", guard, "x", 1, 0, 0, 0)])


def small_guards(lanes):
    for low in range(0, lanes + 1, 3):
        for high in {*range(low, lanes + 1, 5), lanes, lanes - 1 if low < lanes else lanes}:
            for step in (1, 2, 3, 4, 5, 7, 9, 12, 40):
                for rest in {0, step - 1, step // 2}:
                    yield (low, high, step, rest)


class SmallTest(Case):
    def agrees(self, lanes, guard, wave):
        kernel, own = one_put(lanes, guard), lanes_of(guard)
        waves = [range(start, min(start + wave, lanes)) for start in range(0, lanes, wave)]
        found = [len([lane for lane in group if lane in own]) for group in waves]
        with self.subTest(lanes=lanes, guard=guard, wave=wave):
            self.assertEqual(count_waves(kernel, 1, wave), len([many for many in found if many > 0]))
            self.assertEqual(full_waves(kernel, 1, wave),
                             len([many for many, group in zip(found, waves) if many == len(group)]))
            self.assertEqual([lanes_in_wave(kernel, 1, wave, number) for number in range(len(waves))], found)
            self.refuses(InvalidNumber, len(waves), lanes_in_wave, kernel, 1, wave, len(waves))
            self.refuses(InvalidNumber, -1, lanes_in_wave, kernel, 1, wave, -1)

    def test_examples_of_the_document(self):
        self.assertEqual(count_waves(EXAMPLE, 0, 4), 5)
        self.assertEqual(count_waves(EXAMPLE, 1, 4), 6)
        self.assertEqual(full_waves(EXAMPLE, 1, 4), 5)
        self.assertEqual(full_waves(EXAMPLE, 0, 4), 1)
        self.assertEqual(lanes_in_wave(EXAMPLE, 1, 4, 0), 1)

    def test_functions_are_defined_in_this_file(self):
        self.defined_in(module, "count_waves", "full_waves", "lanes_in_wave")

    def test_all_waves_of_small_kernels(self):
        for lanes in (1, 2, 7, 12, 17):
            for guard in small_guards(lanes):
                for wave in (1, 2, 3, 4, 6, 8, 16, 32):
                    self.agrees(lanes, guard, wave)

    def test_greater_kernels(self):
        for lanes in (64, 65, 67, 95):
            for guard in ((0, lanes, 1, 0), (0, lanes, 3, 2), (5, lanes - 1, 1, 0), (31, 66, 2, 1), (31, 64, 33, 31),
                          (1, 63, 31, 1), (0, lanes, 40, 39)):
                if guard[1] <= lanes:
                    for wave in (1, 5, 31, 32):
                        self.agrees(lanes, guard, wave)

    def test_the_last_wave_with_fewer_lanes(self):
        kernel = one_put(21, (0, 21, 5, 0))
        self.assertEqual([full_waves(kernel, 0, wave) for wave in (1, 4, 5, 20, 21, 32)], [21, 6, 5, 2, 1, 1])
        self.assertEqual([full_waves(kernel, 1, wave) for wave in (1, 2, 4, 5, 10, 20)], [5, 1, 1, 1, 1, 1])
        self.assertEqual([full_waves(kernel, 1, wave) for wave in (3, 6, 11, 19, 21, 32)], [0] * 6)
        self.assertEqual([lanes_in_wave(kernel, 0, 4, number) for number in range(6)], [4, 4, 4, 4, 4, 1])
        self.assertEqual(full_waves(one_put(20, (0, 20, 19, 0)), 1, 19), 1)
        self.assertEqual(full_waves(one_put(20, (0, 19, 19, 0)), 1, 19), 0)
        self.assertEqual(full_waves(one_put(20, (0, 20, 2, 0)), 1, 19), 0)

    def test_guards_without_lanes(self):
        for guard in ((0, 0, 1, 0), (8, 8, 1, 0), (21, 21, 1, 0), (6, 6, 1, 0), (20, 20, 3, 0), (5, 6, 7, 4),
                      (1, 7, 9, 8), (8, 9, 2, 1)):
            for wave in (1, 2, 4, 8, 32):
                self.agrees(21, guard, wave)
                self.assertEqual(count_waves(one_put(21, guard), 1, wave), 0)
                self.assertEqual(full_waves(one_put(21, guard), 1, wave), 0)

    def test_kernel_stays_and_arguments_by_name(self):
        copy = Kernel(EXAMPLE.lanes, EXAMPLE.statements, EXAMPLE.barriers)
        self.assertEqual(count_waves(wave=4, statement=0, kernel=EXAMPLE), 5)
        self.assertEqual(full_waves(wave=4, statement=1, kernel=EXAMPLE), 5)
        self.assertEqual(lanes_in_wave(number=0, wave=4, statement=1, kernel=EXAMPLE), 1)
        self.assertEqual(EXAMPLE, copy)


class FarTest(Case):
    def test_all_lanes(self):
        for lanes in (GREAT, GREAT + 1, GREAT + 31):
            kernel = one_put(lanes, (7, lanes - 1, 1, 0))
            for wave in (1, 3, 31, 32):
                waves = (lanes + wave - 1) // wave
                self.assertEqual((count_waves(kernel, 0, wave), full_waves(kernel, 0, wave)), (waves, waves))
                self.assertEqual(lanes_in_wave(kernel, 0, wave, waves - 1), (lanes - 1) % wave + 1)
                self.assertEqual(lanes_in_wave(kernel, 1, wave, waves - 1), (lanes - 1) % wave)
                self.assertEqual(full_waves(kernel, 1, wave), (lanes - 1) // wave - (7 + wave - 1) // wave)
                self.refuses(InvalidNumber, waves, lanes_in_wave, kernel, 0, wave, waves)

    def test_steps(self):
        kernel = one_put(GREAT, (0, GREAT, 10 ** 9, 5))
        self.assertEqual((count_waves(kernel, 1, 32), full_waves(kernel, 1, 32)), (10 ** 21, 0))
        self.assertEqual(full_waves(kernel, 1, 1), 10 ** 21)
        self.assertEqual(lanes_in_wave(kernel, 1, 32, 10 ** 9 * 10 ** 12), 1)
        self.assertEqual(lanes_in_wave(kernel, 1, 32, 10 ** 9 * 10 ** 12 + 1), 0)
        close = one_put(GREAT, (40, GREAT - 40, 31, 3))
        # The lanes are 65, 96, .. and the last one below 10 ** 30 - 40.
        last = GREAT - 41 - (GREAT - 41 - 3) % 31
        self.assertEqual(count_waves(close, 1, 32), last // 32 - 65 // 32 + 1)
        self.assertEqual(count_waves(close, 1, 31), (last - 65) // 31 + 1)
        self.assertEqual(full_waves(close, 1, 1), (last - 65) // 31 + 1)

    def test_cut_at_the_begin_of_a_wave(self):
        for step, rest in ((1, 0), (2, 1), (7, 3), (31, 30), (33, 2), (10 ** 20 + 7, 10 ** 19)):
            for wave in (1, 8, 32):
                whole = one_put(GREAT, (0, GREAT, step, rest))
                for place in (0, wave, wave * 10 ** 20, wave * (10 ** 28 + 3)):
                    parts = [one_put(GREAT, (0, place, step, rest)), one_put(GREAT, (place, GREAT, step, rest))]
                    for call in (count_waves, full_waves):
                        self.assertEqual(call(whole, 1, wave), sum(call(part, 1, wave) for part in parts))


class ErrorsTest(Case):
    def test_statement_check(self):
        for statement in (-1, 2, 3, GREAT, -GREAT):
            for wave in (4, *NO_WAVES):
                self.refuses(InvalidNumber, statement, count_waves, EXAMPLE, statement, wave)
                self.refuses(InvalidNumber, statement, full_waves, EXAMPLE, statement, wave)
                self.refuses(InvalidNumber, statement, lanes_in_wave, EXAMPLE, statement, wave, -7)
        self.refuses(InvalidNumber, 0, count_waves, Kernel(5, []), 0, 4)

    def test_wave_check(self):
        self.refuses_waves(InvalidNumber, count_waves, EXAMPLE, 0)
        self.refuses_waves(InvalidNumber, full_waves, EXAMPLE, 1)
        for wave in NO_WAVES:
            for number in (0, -7, GREAT):
                self.refuses(InvalidNumber, wave, lanes_in_wave, EXAMPLE, 1, wave, number)
        self.refuses(InvalidNumber, 33, lanes_in_wave, Kernel(40, [("put", FEW, "x", 1, 0, 0, 0)]), 0, 33, 0)

    def test_number_of_a_wave(self):
        for number in (-1, 6, 7, GREAT, -GREAT):
            self.refuses(InvalidNumber, number, lanes_in_wave, EXAMPLE, 1, 4, number)
        self.assertEqual(lanes_in_wave(EXAMPLE, 1, 4, 5), 1)
        self.refuses(InvalidNumber, 1, lanes_in_wave, EXAMPLE, 1, 21, 1)
        self.assertEqual(lanes_in_wave(EXAMPLE, 1, 20, 1), 1)
