"""Points 2, 3, 7, 8 and 9: harmful and harmless races."""

from plain import Case, FEW, GREAT, MANY, NO_WAVES, WAVES, pairs_of_accesses, races, small_kernels
from stridelanes import harmful as module
from stridelanes.errors import InvalidAccess, InvalidNumber
from stridelanes.harmful import count_harmful, first_harmful_race, is_harmless
from stridelanes.kernels import Kernel
from stridelanes.races import count_races, is_race, nth_race


def two_puts(lanes, first, second, guard=None, other_guard=None, barriers=()):
    """Two puts to the array x, each with its (a, b, c, d)."""
    every = (0, lanes, 1, 0)
    return Kernel(lanes, [("put", guard or every, "x", *first), ("put", other_guard or every, "x", *second)], barriers)


EXAMPLE = two_puts(10, (1, 0, 2, 0), (1, 1, 1, 3))


class SmallTest(Case):
    def agrees(self, kernel, wave):
        """All that is told of the harm in a kernel is what going through the lanes tells."""
        first = None
        for e, f in pairs_of_accesses(kernel):
            found = [(i, j) for i, j, same in races(kernel, e, f, wave) if not same]
            self.assertEqual(count_harmful(kernel, e, f, wave), len(found),
                             (kernel.lanes, kernel.statements, e, f, wave))
            if found and first is None:
                first = (e, f, *found[0])
        self.assertEqual(first_harmful_race(kernel, wave), first,
                         (kernel.lanes, kernel.statements, kernel.barriers, wave))

    def agrees_on_lanes(self, kernel):
        for e, f in pairs_of_accesses(kernel):
            told = {(i, j): same for i, j, same in races(kernel, e, f, 1)}
            for i in range(-2, kernel.lanes + 2):
                for j in range(-2, kernel.lanes + 2):
                    self.assertIs(is_harmless(kernel, e, f, i, j), told.get((i, j)))

    def test_examples_of_the_document(self):
        self.assertEqual(count_harmful(EXAMPLE, 0, 1), 8)
        self.assertIs(is_harmless(EXAMPLE, 0, 1, 2, 1), True)
        self.assertEqual(first_harmful_race(EXAMPLE), (0, 1, 1, 0))
        self.assertIsNone(first_harmful_race(Kernel(10, [("put", FEW, "x", 0, 5, 0, 7)])))

    def test_functions_are_defined_in_this_file(self):
        self.defined_in(module, "count_harmful", "is_harmless", "first_harmful_race")

    def test_small_kernels(self):
        for number, kernel in enumerate(small_kernels(11, 500)):
            self.agrees(kernel, WAVES[number % len(WAVES)])
            self.agrees(kernel, 1)

    def test_kernels_of_several_waves(self):
        for number, kernel in enumerate(small_kernels(12, 60, most_lanes=75, most_statements=3)):
            self.agrees(kernel, WAVES[number % len(WAVES)])

    def test_kernels_of_many_statements(self):
        for number, kernel in enumerate(small_kernels(17, 20, most_lanes=5, most_statements=12)):
            self.agrees(kernel, WAVES[number % 4])
            self.agrees_on_lanes(kernel)

    def test_cells_times_a_great_factor(self):
        for number, kernel in enumerate(small_kernels(13, 100, factor=GREAT)):
            self.agrees(kernel, WAVES[number % len(WAVES)])

    def test_is_harmless_for_all_pairs_of_integers(self):
        for kernel in small_kernels(14, 150):
            self.agrees_on_lanes(kernel)
        self.agrees_on_lanes(EXAMPLE)

    def test_puts_on_one_cell(self):
        guards = ((0, 9, 1, 0), (0, 9, 4, 1), (2, 7, 2, 0), (3, 4, 1, 0), (5, 5, 1, 0), (4, 6, 1, 0))
        for guard in guards:
            for other in guards:
                for c in (-1, 0, 2):
                    for other_c in (-2, 0, 1):
                        for d in (0, 3):
                            kernel = two_puts(9, (0, 5, c, d), (0, 5, other_c, 2), guard, other)
                            for wave in (1, 2, 5):
                                self.agrees(kernel, wave)

    def test_puts_along_lines(self):
        for a in (-2, 1, 3):
            for other_a in (-1, 0, 2):
                for c in (-2, 0, 1, 3):
                    for other_c in (-1, 0, 2):
                        kernel = two_puts(14, (a, 4, c, 4), (other_a, 2, other_c, 2))
                        for wave in (1, 3, 7):
                            self.agrees(kernel, wave)

    def test_always_the_same_integer(self):
        # Cells that hold their own numbers afterwards.
        own = two_puts(30, (2, 1, 2, 1), (-3, 40, -3, 40))
        seven = two_puts(30, (2, 1, 0, 7), (-3, 40, 0, 7))
        cell = two_puts(30, (0, 4, 0, 7), (0, 4, 0, 7))
        for kernel in (own, seven, cell):
            self.assertGreater(count_races(kernel, 0, 1), 0)
            for wave in WAVES:
                self.assertEqual(count_harmful(kernel, 0, 1, wave), 0)
                self.assertIsNone(first_harmful_race(kernel, wave))
            self.assertIs(is_harmless(kernel, 0, 1, *nth_race(kernel, 0, 1, 0)), True)

    def test_never_the_same_integer(self):
        for kernel in (two_puts(30, (2, 1, 2, 1), (-3, 40, -3, 41)), two_puts(30, (2, 1, 0, 7), (-3, 40, 0, 8)),
                       two_puts(30, (0, 4, 2, 0), (0, 4, 2, 1))):
            self.assertGreater(count_races(kernel, 0, 1), 0)
            for wave in WAVES:
                self.assertEqual(count_harmful(kernel, 0, 1, wave), count_races(kernel, 0, 1, wave))
            self.assertIs(is_harmless(kernel, 0, 1, *nth_race(kernel, 0, 1, 0)), False)

    def test_one_harmless_pair_within_a_wave_or_not(self):
        # Races are (i + 1, i); the lanes 6 and 5 alone write the same integer.
        kernel = two_puts(20, (1, 0, 3, 0), (1, 1, 1, 13))
        self.assertEqual([i for i in range(20) if is_harmless(kernel, 0, 1, i + 1, i)], [5])
        self.assertEqual([count_harmful(kernel, 0, 1, wave) for wave in (1, 2, 3, 4, 6)], [18, 8, 5, 4, 2])
        self.assertEqual([count_races(kernel, 0, 1, wave) for wave in (1, 2, 3, 4, 6)], [19, 9, 6, 4, 3])
        # Of two lanes, and these alone, no harm is left.
        alone = two_puts(20, (1, 0, 3, 0), (1, 1, 1, 13), (6, 7, 1, 0), (5, 6, 1, 0))
        self.assertEqual((count_races(alone, 0, 1), count_harmful(alone, 0, 1)), (1, 0))
        self.assertIsNone(first_harmful_race(alone))

    def test_the_first_race_alone_is_harmless(self):
        # The races (1, 0), (2, 1), .. ; the first one writes the integer 3 twice.
        kernel = two_puts(10, (1, 0, 2, 1), (1, 1, 1, 3))
        self.assertEqual(first_harmful_race(kernel), (0, 1, 2, 1))
        self.assertEqual(first_harmful_race(kernel, 2), (0, 1, 2, 1))
        self.assertEqual(first_harmful_race(kernel, 3), (0, 1, 3, 2))

    def test_one_cell_with_one_lane_that_does_no_harm(self):
        # The lane 0 writes what all lanes of the second put write.
        kernel = two_puts(6, (0, 5, 1, 7), (0, 5, 0, 7))
        self.assertEqual(count_harmful(kernel, 0, 1), 25)
        self.assertEqual(count_races(kernel, 0, 1), 30)
        alone = Kernel(6, kernel.statements, [1])
        self.assertEqual(first_harmful_race(alone), (0, 0, 0, 1))
        second = two_puts(6, (0, 5, 1, 7), (0, 5, 0, 7), (0, 1, 1, 0))
        self.assertEqual(count_harmful(second, 0, 1), 0)
        self.assertIsNone(first_harmful_race(second))
        third = two_puts(6, (0, 5, 1, 7), (0, 5, 0, 7), (0, 6, 5, 0))
        self.assertEqual(first_harmful_race(third.with_barriers([1])), (0, 0, 0, 5))
        self.assertEqual(count_harmful(third, 0, 1), 5)

    def test_moves_and_sums_always_harm(self):
        kernel = Kernel(10, [("move", FEW, "x", 0, 5, "y", 0, 1, 0), ("put", FEW, "x", 0, 5, 0, 7),
                             ("sum", FEW, "x", 0, 5, "y", 0, 1, "y", 0, 2)])
        for e, f in ((1, 1), (1, 2), (1, 5), (2, 5), (5, 5)):
            self.assertEqual(count_harmful(kernel, e, f), count_races(kernel, e, f))
            self.assertGreater(count_harmful(kernel, e, f), 0)
            self.assertIs(is_harmless(kernel, e, f, 0, 1), False)
        self.assertEqual(count_harmful(kernel, 2, 2), 0)
        self.assertIs(is_harmless(kernel, 2, 2, 0, 1), True)
        self.assertIsNone(is_harmless(kernel, 2, 2, 1, 0))
        self.assertIsNone(is_harmless(kernel, 2, 2, 1, 1))

    def test_other_phases(self):
        kernel = two_puts(10, (1, 0, 2, 0), (1, 1, 1, 3), barriers=[1])
        self.assertEqual(count_harmful(kernel, 0, 1), 0)
        self.assertIsNone(is_harmless(kernel, 0, 1, 2, 1))
        self.assertIsNone(first_harmful_race(kernel))

    def test_kernel_without_statements(self):
        self.assertIsNone(first_harmful_race(Kernel(4, [])))

    def test_kernel_stays_and_arguments_by_name(self):
        copy = Kernel(EXAMPLE.lanes, EXAMPLE.statements, EXAMPLE.barriers)
        self.assertEqual(count_harmful(wave=2, f=1, e=0, kernel=EXAMPLE), 3)
        self.assertEqual(count_harmful(f=1, e=0, kernel=EXAMPLE), 8)
        self.assertIs(is_harmless(j=2, i=3, f=1, e=0, kernel=EXAMPLE), False)
        self.assertEqual(first_harmful_race(wave=2, kernel=EXAMPLE), (0, 1, 4, 3))
        self.assertEqual(first_harmful_race(kernel=EXAMPLE), (0, 1, 1, 0))
        self.assertEqual(EXAMPLE, copy)


class FarTest(Case):
    def test_one_harmless_pair_far_away(self):
        # Races are (i + 1, i); 2 * (i + 1) = i + d for i = d - 2 alone.
        for d in (2, 3, 33, 34, 10 ** 29, 10 ** 30):
            kernel = two_puts(GREAT, (1, 0, 2, 0), (1, 1, 1, d))
            self.assertEqual(count_harmful(kernel, 0, 1), GREAT - 2)
            self.assertEqual(count_harmful(kernel, 0, 1, 32), GREAT // 32 - 1 - (1 if (d - 1) % 32 == 0 else 0))
            self.assertIs(is_harmless(kernel, 0, 1, d - 1, d - 2), True if d - 1 < GREAT else None)
            self.assertEqual(first_harmful_race(kernel), (0, 1, 2, 1) if d == 2 else (0, 1, 1, 0))
            self.assertEqual(first_harmful_race(kernel, 32), (0, 1, 64, 63) if d == 33 else (0, 1, 32, 31))

    def test_beyond_the_lanes(self):
        for d in (-5, 1, GREAT + 1):
            kernel = two_puts(GREAT, (1, 0, 2, 0), (1, 1, 1, d))
            self.assertEqual(count_harmful(kernel, 0, 1), GREAT - 1)

    def test_own_numbers(self):
        kernel = two_puts(GREAT, (6, 9, 6, 9), (10, 5, 10, 5))
        self.assertGreater(count_races(kernel, 0, 1), 10 ** 28)
        self.assertEqual(count_harmful(kernel, 0, 1), 0)
        self.assertIsNone(first_harmful_race(kernel))

    def test_one_cell(self):
        every = two_puts(GREAT, (0, 5, 1, 0), (0, 5, -1, GREAT - 1))
        self.assertEqual(count_harmful(every, 0, 0), GREAT * (GREAT - 1) // 2)
        # The lanes i and GREAT - 1 - i write the same integer; no lane does this with itself.
        self.assertEqual(count_harmful(every, 0, 1), GREAT * (GREAT - 1) - GREAT)
        together = GREAT // 32 * 32 ** 2
        self.assertEqual(count_harmful(every, 0, 1, 32), GREAT ** 2 - together - GREAT)
        self.assertEqual(first_harmful_race(every), (0, 0, 0, 1))
        same = two_puts(GREAT, (0, 5, 3, 0), (0, 5, 3, 0))
        self.assertEqual(count_harmful(same, 0, 1), count_races(same, 0, 1))
        ones = two_puts(GREAT, (0, 5, 0, 1), (0, 5, 3, -2))
        # The lane 1 of the second put writes 1.
        self.assertEqual(count_harmful(ones, 0, 1), GREAT * (GREAT - 1) - (GREAT - 1))
        self.assertEqual(count_harmful(ones, 0, 1, 32), GREAT * (GREAT - 32) - (GREAT - 32))
        self.assertEqual(first_harmful_race(ones.with_barriers([1])), (1, 1, 0, 1))
        self.assertEqual(first_harmful_race(ones), (0, 1, 0, 2))
        self.assertEqual(first_harmful_race(ones, 2), (0, 1, 0, 2))
        self.assertEqual(first_harmful_race(ones, 32), (0, 1, 0, 32))
        shifted = two_puts(GREAT, (0, 5, 0, 1), (0, 5, 3, 1 - 3 * 32))
        self.assertEqual(first_harmful_race(shifted, 32), (0, 1, 0, 33))

    def test_only_a_far_race_harms(self):
        # All lanes but the last one of the second put are in the first wave's place; the first put is one lane.
        start = 32 * 10 ** 28
        kernel = two_puts(GREAT, (0, 5, 0, 7), (0, 5, 1, 7 - start), (3, 4, 1, 0), (start, start + 1, 1, 0))
        self.assertEqual((count_races(kernel, 0, 1), count_harmful(kernel, 0, 1)), (1, 0))
        kernel = two_puts(GREAT, (0, 5, 0, 7), (0, 5, 1, 7 - start), (3, 4, 1, 0), (start, start + 5, 1, 0))
        self.assertEqual((count_races(kernel, 0, 1), count_harmful(kernel, 0, 1)), (5, 4))
        self.assertEqual(first_harmful_race(Kernel(GREAT, kernel.statements)), (0, 1, 3, start + 1))

    def test_the_first_one_is_the_least(self):
        for number, kernel in enumerate(small_kernels(15, 150, most_statements=2)):
            wave = WAVES[number % len(WAVES)]
            far = Kernel(GREAT, [(word, (low, GREAT, step, rest), *items)
                                 for word, (low, _, step, rest), *items in kernel.statements])
            first = first_harmful_race(far, wave)
            for e, f in pairs_of_accesses(far):
                many = count_harmful(far, e, f, wave)
                if first is None or (e, f) < first[:2]:
                    self.assertEqual(many, 0)
                elif (e, f) == first[:2]:
                    self.assertGreater(many, 0)
                    self.assertIs(is_race(far, *first, wave), True)
                    self.assertIs(is_harmless(far, *first), False)
                    # Races come ascending, so those ahead of the first harmful one are few or all harmless.
                    for place in range(100):
                        pair = nth_race(far, e, f, place, wave)
                        if pair == first[2:]:
                            break
                        self.assertIs(is_harmless(far, e, f, *pair), True)
                    else:
                        self.fail("too many harmless races ahead")

    def test_many_statements(self):
        same = Kernel(GREAT, [("put", MANY, "x", 0, 5, 0, 7)] * 12)
        for wave in (1, 32):
            self.assertIsNone(first_harmful_race(same, wave))
        other = Kernel(GREAT, [("put", MANY, "x", 0, 5, 0, 7)] * 11 + [("put", (31, 33, 1, 0), "x", 0, 5, 0, 8)])
        self.assertEqual(first_harmful_race(other), (0, 11, 0, 31))
        self.assertEqual(first_harmful_race(other, 32), (0, 11, 0, 32))


class ErrorsTest(Case):
    def test_pair_check(self):
        cases = [(-1, 0, -1), (2, 0, 2), (GREAT, -1, GREAT), (0, 2, 2), (0, -1, -1), (1, GREAT, GREAT), (1, 0, 0)]
        for e, f, value in cases:
            self.refuses(InvalidAccess, value, count_harmful, EXAMPLE, e, f)
            self.refuses(InvalidAccess, value, is_harmless, EXAMPLE, e, f, 2, 1)
            self.refuses(InvalidAccess, value, is_harmless, EXAMPLE, e, f, -2, -1)
            for wave in NO_WAVES:
                self.refuses(InvalidAccess, value, count_harmful, EXAMPLE, e, f, wave)

    def test_wave_check(self):
        self.refuses_waves(InvalidNumber, count_harmful, EXAMPLE, 0, 1)
        self.refuses_waves(InvalidNumber, first_harmful_race, EXAMPLE)
        self.refuses_waves(InvalidNumber, first_harmful_race, Kernel(4, []))
        self.refuses_waves(InvalidNumber, count_harmful, EXAMPLE.with_barriers([1]), 0, 1)
