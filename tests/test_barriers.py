"""Points 2, 3, 8, 9 and 10: barriers between statements."""

from itertools import combinations

from plain import (Case, FEW, GREAT, MANY, NO_WAVES, WAVES, busy_kernels, need_parting, pairs_of_statements,
                   small_kernels, stuck)
from stridelanes import barriers as module
from stridelanes.barriers import fewest_barriers, needless_barriers, needs_parting, parting_pairs, stuck_race
from stridelanes.errors import InvalidNumber
from stridelanes.harmful import first_harmful_race
from stridelanes.kernels import Kernel

EXAMPLE = Kernel(10, [("put", FEW, "x", 2, 0, 1, 0), ("move", FEW, "y", 1, 0, "x", 3, 1, 0)])
STUCK = Kernel(10, [("put", FEW, "x", 0, 5, 1, 0)])


def parts(barrier, pair):
    return pair[0] < barrier <= pair[1]


def all_parted(barriers, pairs):
    return all(any(parts(barrier, pair) for barrier in barriers) for pair in pairs)


def shifts(arrays, lanes=10):
    """A kernel of puts: those with one array need parting, and none has a stuck race."""
    every = (0, lanes, 1, 0)
    return Kernel(lanes, [("put", every, array, 1, number, 0, number) for number, array in enumerate(arrays)])


class SmallTest(Case):
    def agrees(self, kernel, wave):
        needed = need_parting(kernel, wave)
        self.assertEqual([pair for pair in pairs_of_statements(kernel) if needs_parting(kernel, *pair, wave)], needed)
        self.assertEqual(stuck_race(kernel, wave), stuck(kernel, wave))
        if stuck(kernel, wave) is not None:
            self.assertIsNone(fewest_barriers(kernel, wave))
            self.assertIsNone(parting_pairs(kernel, wave))
            return 0
        places = range(1, len(kernel))
        lists = [list(barriers) for many in range(len(kernel) + 1) for barriers in combinations(places, many)
                 if all_parted(barriers, needed)]
        fewest = min(len(barriers) for barriers in lists)
        self.assertEqual(fewest_barriers(kernel, wave), max(barriers for barriers in lists if len(barriers) == fewest))
        pairs = parting_pairs(kernel, wave)
        self.assertEqual(len(pairs), fewest)
        self.assertEqual(pairs, sorted(set(pairs)))
        self.assertTrue(set(pairs) <= set(needed))
        for pair, other in combinations(pairs, 2):
            self.assertFalse(any(parts(place, pair) and parts(place, other) for place in places))
        self.assertIsNone(first_harmful_race(kernel.with_barriers(fewest_barriers(kernel, wave)), wave))
        return fewest

    def agrees_on_needless(self, kernel, wave):
        needed, barriers = need_parting(kernel, wave), kernel.barriers
        needless = [barrier for barrier in barriers
                    if all_parted([other for other in barriers if other != barrier],
                                  [pair for pair in needed if parts(barrier, pair)])]
        self.assertEqual(needless_barriers(kernel, wave), needless, (kernel.statements, barriers, wave))
        return len(needless)

    def test_examples_of_the_document(self):
        self.assertEqual(fewest_barriers(EXAMPLE), [1])
        self.assertEqual(parting_pairs(EXAMPLE), [(0, 1)])
        self.assertEqual(needless_barriers((EXAMPLE + EXAMPLE).with_barriers([1, 2, 3])), [])
        self.assertEqual(stuck_race(STUCK), (0, 0, 0, 1))

    def test_functions_are_defined_in_this_file(self):
        self.defined_in(module, "needs_parting", "stuck_race", "fewest_barriers", "parting_pairs", "needless_barriers")

    def test_small_kernels(self):
        found = [self.agrees(kernel, WAVES[number % 5]) for number, kernel in enumerate(busy_kernels(21, 400))]
        self.assertTrue({0, 1, 2, 3} <= set(found))
        for number, kernel in enumerate(small_kernels(24, 100)):
            self.agrees(kernel, WAVES[number % 3])

    def test_kernels_of_several_waves(self):
        for number, kernel in enumerate(busy_kernels(22, 40, most_lanes=70)):
            self.agrees(kernel, WAVES[number % len(WAVES)])

    def test_needless_barriers_of_small_kernels(self):
        found = 0
        for number, kernel in enumerate(busy_kernels(23, 200)):
            for barriers in (kernel.barriers, list(range(1, len(kernel)))):
                found += self.agrees_on_needless(kernel.with_barriers(barriers), WAVES[number % 5])
        self.assertGreater(found, 20)

    def test_in_whatever_phases(self):
        for barriers in ([], [1], [2], [1, 2]):
            kernel = shifts("xyx").with_barriers(barriers)
            self.assertEqual([needs_parting(kernel, *pair) for pair in ((0, 1), (0, 2), (1, 2))], [False, True, False])
            self.assertEqual(fewest_barriers(kernel), [2])
            self.assertEqual(parting_pairs(kernel), [(0, 2)])
        self.assertEqual(stuck_race(Kernel(10, [EXAMPLE.statements[0], STUCK.statements[0]], [1])), (1, 1, 0, 1))

    def test_the_greatest_of_the_shortest_lists(self):
        self.assertEqual(fewest_barriers(shifts("xyxy")), [2])
        self.assertEqual(fewest_barriers(shifts("xyyx")), [2])
        self.assertEqual(fewest_barriers(shifts("xabcx")), [4])
        self.assertEqual(fewest_barriers(shifts("xxyy")), [1, 3])
        self.assertEqual(fewest_barriers(shifts("xaxbybx")), [2, 5])
        self.assertEqual(fewest_barriers(shifts("xxx")), [1, 2])
        self.assertEqual(fewest_barriers(shifts("xaxax")), [2, 4])
        self.assertEqual(parting_pairs(shifts("xaxax")), [(0, 2), (2, 4)])

    def test_nothing_to_part(self):
        for kernel in (Kernel(10, []), shifts("x"), shifts("xyz"), Kernel(1, [STUCK.statements[0][:1] + ((0, 1, 1, 0),)
                                                                           + STUCK.statements[0][2:]] * 2)):
            for wave in WAVES:
                self.assertEqual(fewest_barriers(kernel, wave), [])
                self.assertEqual(parting_pairs(kernel, wave), [])
                self.assertIsNone(stuck_race(kernel, wave))
        self.assertEqual(needless_barriers(Kernel(10, [])), [])
        self.assertEqual(needless_barriers(shifts("xyz").with_barriers([1, 2])), [1, 2])

    def test_needless_ones_are_looked_at_by_themselves(self):
        self.assertEqual(needless_barriers(shifts("xabx").with_barriers([1, 2, 3])), [1, 2, 3])
        self.assertEqual(needless_barriers(shifts("xabx").with_barriers([2])), [])
        self.assertEqual(needless_barriers(shifts("xaxb").with_barriers([1, 2, 3])), [1, 2, 3])
        self.assertEqual(needless_barriers(shifts("xxab").with_barriers([1, 2, 3])), [2, 3])
        self.assertEqual(needless_barriers(shifts("xaxbx").with_barriers([2, 3, 4])), [3, 4])

    def test_needless_ones_with_a_stuck_race(self):
        kernel = Kernel(10, [*shifts("xabx").statements, *STUCK.statements], [1, 3, 4])
        self.assertIsNotNone(stuck_race(kernel))
        self.assertEqual(needless_barriers(kernel), [1, 3])
        self.assertEqual(needless_barriers(kernel.with_barriers([2, 3])), [2, 3])
        self.assertEqual(needless_barriers(kernel.with_barriers([2, 4])), [])

    def test_waves(self):
        kernel = Kernel(64, [("put", (0, 64, 1, 0), "x", 1, 0, 1, 0), ("move", (0, 63, 1, 0), "y", 1, 0, "x", 1, 1, 0)])
        self.assertEqual([needs_parting(kernel, 0, 1, wave) for wave in (1, 32)], [True, True])
        few = Kernel(64, [kernel.statements[0], ("move", (0, 31, 1, 0), "y", 1, 0, "x", 1, 1, 0)])
        self.assertEqual([needs_parting(few, 0, 1, wave) for wave in (1, 2, 31, 32)], [True, True, True, False])
        self.assertEqual([fewest_barriers(few, wave) for wave in (1, 32)], [[1], []])
        self.assertEqual([needless_barriers(few.with_barriers([1]), wave) for wave in (1, 32)], [[], [1]])
        move = Kernel(64, [("move", (0, 32, 1, 0), "x", 1, 0, "x", 1, 1, 0)])
        self.assertEqual([stuck_race(move, wave) for wave in (1, 2, 31, 32)],
                         [(0, 1, 0, 1), (0, 1, 1, 2), (0, 1, 30, 31), None])
        self.assertEqual([fewest_barriers(move, wave) for wave in (1, 32)], [None, []])
        self.assertEqual([stuck_race(STUCK, wave) for wave in (1, 32)], [(0, 0, 0, 1), (0, 0, 0, 1)])

    def test_same_integers_need_no_parting(self):
        kernel = Kernel(10, [("put", FEW, "x", 0, 5, 0, 7), ("put", FEW, "x", 0, 5, 0, 7),
                             ("put", (0, 1, 1, 0), "x", 0, 5, 0, 8)])
        self.assertEqual([needs_parting(kernel, *pair) for pair in ((0, 1), (0, 2), (1, 2))], [False, True, True])
        self.assertEqual(fewest_barriers(kernel), [2])

    def test_returned_lists_are_new_and_kernels_stay(self):
        kernel = shifts("xaxbx").with_barriers([2, 3, 4])
        copy = Kernel(kernel.lanes, kernel.statements, kernel.barriers)
        for call in (fewest_barriers, parting_pairs, needless_barriers):
            told = call(kernel)
            call(kernel).clear()
            self.assertEqual(call(kernel), told)
            self.assertIs(type(told), list)
            self.assertEqual(kernel, copy)
        self.assertEqual({type(pair) for pair in parting_pairs(kernel)}, {tuple})

    def test_arguments_by_name(self):
        kernel = shifts("xaxbx").with_barriers([2, 3, 4])
        self.assertIs(needs_parting(wave=4, v=2, u=0, kernel=kernel), True)
        self.assertIs(needs_parting(v=1, u=0, kernel=kernel), False)
        self.assertEqual(stuck_race(wave=4, kernel=STUCK), (0, 0, 0, 1))
        self.assertEqual(stuck_race(kernel=STUCK), (0, 0, 0, 1))
        self.assertEqual(fewest_barriers(wave=10, kernel=kernel), [])
        self.assertEqual(fewest_barriers(kernel=kernel), [2, 4])
        self.assertEqual(parting_pairs(wave=10, kernel=kernel), [])
        self.assertEqual(parting_pairs(kernel=kernel), [(0, 2), (2, 4)])
        self.assertEqual(needless_barriers(wave=10, kernel=kernel), [2, 3, 4])
        self.assertEqual(needless_barriers(kernel=kernel), [3, 4])

    def test_wave_of_one_lane_where_it_is_left_out(self):
        # The lanes 0 and 1 alone race, so waves of two lanes take all races away.
        kernel = Kernel(4, [("put", (0, 1, 1, 0), "x", 0, 5, 0, 1), ("put", (1, 2, 1, 0), "x", 0, 5, 0, 2)], [1])
        move = Kernel(4, [("move", (0, 2, 1, 0), "x", 1, 0, "x", 1, 1, 0)])
        self.assertEqual([needs_parting(kernel, 0, 1), needs_parting(kernel, 0, 1, 2)], [True, False])
        self.assertEqual([fewest_barriers(kernel), fewest_barriers(kernel, 2)], [[1], []])
        self.assertEqual([parting_pairs(kernel), parting_pairs(kernel, 2)], [[(0, 1)], []])
        self.assertEqual([needless_barriers(kernel), needless_barriers(kernel, 2)], [[], [1]])
        self.assertEqual([stuck_race(move), stuck_race(move, 2)], [(0, 1, 0, 1), None])
        self.assertEqual([fewest_barriers(move), fewest_barriers(move, 2)], [None, []])
        self.assertEqual([parting_pairs(move), parting_pairs(move, 2)], [None, []])


class FarTest(Case):
    def test_far_kernels(self):
        kernel = shifts("xabxaybx", GREAT)
        self.assertEqual(fewest_barriers(kernel), [3, 7])
        self.assertEqual(parting_pairs(kernel), [(0, 3), (3, 7)])
        self.assertEqual(needless_barriers(kernel.with_barriers([1, 3, 5, 7])), [1, 5, 7])

    def test_one_far_race(self):
        start = 32 * 10 ** 28
        for gap, together in ((1, True), (31, True), (32, False), (10 ** 28, False)):
            kernel = Kernel(GREAT, [("put", (start, start + 1, 1, 0), "x", 0, 5, 0, 1),
                                    ("put", (start + gap, start + gap + 1, 1, 0), "x", 0, 5, 0, 2)])
            self.assertIs(needs_parting(kernel, 0, 1), True)
            self.assertIs(needs_parting(kernel, 0, 1, 32), not together)
            self.assertEqual(fewest_barriers(kernel, 32), [] if together else [1])

    def test_stuck_far_away(self):
        kernel = Kernel(GREAT, [("move", MANY, "x", 1, 0, "x", 2, -10 ** 28, 0)])
        self.assertEqual(stuck_race(kernel), (0, 1, 10 ** 28 // 2, 0))
        self.assertIsNone(fewest_barriers(kernel, 32))
        self.assertIsNone(stuck_race(Kernel(GREAT, [("move", MANY, "x", 2, 1, "x", 2, 0, 0)])))

    def test_many_statements(self):
        reads = [("sum", MANY, "x", 3, number, "x", 3, number, "x", 3, number) for number in range(12)]
        kernel = Kernel(GREAT, reads)
        self.assertEqual(fewest_barriers(kernel), [3, 6, 9])
        self.assertEqual(parting_pairs(kernel), [(0, 3), (3, 6), (6, 9)])
        self.assertEqual(needless_barriers(kernel.with_barriers(range(1, 12))), list(range(1, 12)))


class ErrorsTest(Case):
    def test_two_statements(self):
        kernel = shifts("xax")
        cases = [(-1, 1, -1), (3, 1, 3), (GREAT, -1, GREAT), (-GREAT, 7, -GREAT), (3, 3, 3), (-2, -1, -2), (0, 3, 3),
                 (0, -1, -1), (2, GREAT, GREAT), (2, -3, -3), (1, 1, 1), (2, 1, 1), (2, 0, 0), (0, 0, 0)]
        for u, v, value in cases:
            self.refuses(InvalidNumber, value, needs_parting, kernel, u, v)
            for wave in NO_WAVES:
                self.refuses(InvalidNumber, value, needs_parting, kernel, u, v, wave)
        self.refuses(InvalidNumber, 0, needs_parting, Kernel(3, []), 0, 1)
        self.refuses_waves(InvalidNumber, needs_parting, kernel, 0, 1)

    def test_wave_check(self):
        for kernel in (EXAMPLE, STUCK, Kernel(3, [])):
            for call in (stuck_race, fewest_barriers, parting_pairs, needless_barriers):
                self.refuses_waves(InvalidNumber, call, kernel)
