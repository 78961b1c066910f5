"""Points 2, 3, 8, 9 and 10: statements in another order."""

from itertools import permutations

from plain import (Case, FEW, GREAT, MANY, NO_WAVES, WAVES, busy_kernels, do_touch, need_parting, pairs_of_statements,
                   small_kernels, stuck)
from stridelanes import orders as module
from stridelanes.barriers import fewest_barriers
from stridelanes.errors import InvalidNumber
from stridelanes.harmful import first_harmful_race
from stridelanes.kernels import Kernel
from stridelanes.orders import best_order, chain, count_steps, fewest_by_moving, rearranged, touches

ONE = [("put", FEW, "x", 1, 0, 0, 1), ("move", FEW, "y", 1, 0, "x", 1, 1, 0)]
TWO = [("put", FEW, "v", 1, 0, 0, 1), ("move", FEW, "w", 1, 0, "v", 1, 1, 0)]
EXAMPLE = Kernel(10, ONE + TWO)
STUCK = Kernel(10, [("put", FEW, "x", 0, 5, 1, 0), *TWO])


def fewest_for(pairs):
    """The least number of barriers that part all pairs of places."""
    last = many = 0
    for v, u in sorted((v, u) for u, v in pairs):
        if u >= last:
            last = v
            many += 1
    return many


def fewest_by_all_orders(kernel, wave):
    touching, needed, many = do_touch(kernel), need_parting(kernel, wave), len(kernel)
    told = []
    for order in permutations(range(many)):
        place = {number: at for at, number in enumerate(order)}
        if all(place[u] < place[v] for u, v in touching):
            told.append(fewest_for([(place[u], place[v]) for u, v in needed]))
    return min(told)


def levels(kernel, wave):
    touching, needed = do_touch(kernel), need_parting(kernel, wave)
    found = []
    for v in range(len(kernel)):
        found.append(max([found[u] + ((u, v) in needed) for u in range(v) if (u, v) in touching], default=0))
    return found


class SmallTest(Case):
    def agrees(self, kernel, wave):
        calls = (fewest_by_moving, best_order, chain, rearranged)
        if stuck(kernel, wave) is not None:
            self.assertEqual([call(kernel, wave) for call in calls], [None] * 4)
            return None
        fewest = fewest_by_moving(kernel, wave)
        self.assertEqual(fewest, fewest_by_all_orders(kernel, wave))
        found = levels(kernel, wave)
        order = sorted(range(len(kernel)), key=lambda number: (found[number], number))
        barriers = [place for place in range(1, len(order)) if found[order[place]] > found[order[place - 1]]]
        self.assertEqual(best_order(kernel, wave), (order, barriers))
        self.assertEqual(len(barriers), fewest)
        other = rearranged(kernel, wave)
        self.assertEqual(other, Kernel(kernel.lanes, [kernel.statements[number] for number in order], barriers))
        self.assertIsNone(first_harmful_race(other, wave))
        self.is_chain(kernel, chain(kernel, wave), wave, fewest)
        return fewest

    def is_chain(self, kernel, numbers, wave, steps):
        self.assertIs(type(numbers), list)
        pairs = list(zip(numbers, numbers[1:]))
        self.assertTrue(set(pairs) <= set(do_touch(kernel)))
        self.assertTrue(set(numbers) <= set(range(len(kernel))))
        self.assertEqual(len(set(pairs) & set(need_parting(kernel, wave))), steps)
        self.assertEqual(count_steps(kernel, numbers, wave), steps)

    def test_examples_of_the_document(self):
        self.assertEqual(fewest_barriers(EXAMPLE), [1, 3])
        self.assertEqual(fewest_by_moving(EXAMPLE), 1)
        self.assertEqual(best_order(EXAMPLE), ([0, 2, 1, 3], [2]))
        self.assertEqual(count_steps(EXAMPLE, [0, 1]), 1)
        self.assertIs(touches(EXAMPLE, 1, 2), False)

    def test_functions_are_defined_in_this_file(self):
        self.defined_in(module, "touches", "fewest_by_moving", "best_order", "chain", "rearranged", "count_steps")

    def test_small_kernels(self):
        found = [self.agrees(kernel, WAVES[number % 4])
                 for number, kernel in enumerate(busy_kernels(31, 300, most_statements=5))]
        self.assertTrue({0, 1, 2, 3} <= set(found))
        found = [self.agrees(kernel, WAVES[number % 3])
                 for number, kernel in enumerate(small_kernels(32, 200))]
        self.assertTrue({None, 0, 1, 2} <= set(found))

    def test_kernels_of_several_waves(self):
        for number, kernel in enumerate(busy_kernels(33, 30, most_lanes=70, most_statements=4)):
            self.agrees(kernel, WAVES[number % len(WAVES)])

    def test_kernels_of_many_statements(self):
        most = 0
        for number, kernel in enumerate(busy_kernels(40, 60, most_lanes=6, most_statements=12)):
            wave = WAVES[number % 3]
            if stuck(kernel, wave) is not None:
                self.assertIsNone(chain(kernel, wave))
                continue
            found = levels(kernel, wave)
            most = max(most, *found, 0)
            order = sorted(range(len(kernel)), key=lambda at: (found[at], at))
            self.assertEqual(fewest_by_moving(kernel, wave), max(found, default=0))
            self.assertEqual(best_order(kernel, wave)[0], order)
            self.assertEqual(best_order(kernel, wave)[1],
                             [at for at in range(1, len(order)) if found[order[at]] > found[order[at - 1]]])
            self.is_chain(kernel, chain(kernel, wave), wave, max(found, default=0))
        self.assertGreater(most, 4)

    def test_touches_of_all_pairs(self):
        kernels = [*small_kernels(34, 400), *busy_kernels(35, 200), *small_kernels(36, 60, slopes=(0,)),
                   *small_kernels(37, 60, factor=GREAT), *small_kernels(38, 20, most_lanes=60, most_statements=2)]
        for kernel in kernels:
            for pair in pairs_of_statements(kernel):
                self.assertIs(touches(kernel, *pair), pair in do_touch(kernel), (kernel.statements, pair))

    def touch(self, first, second):
        return touches(Kernel(10, [first, second]), 0, 1)

    def test_touching_in_one_lane(self):
        put, read = ("put", FEW, "x", 1, 0, 0, 1), ("move", FEW, "y", 1, 0, "x", 1, 0, 0)
        self.assertIs(self.touch(put, read), True)
        self.assertIs(self.touch(read, put), True)
        self.assertIs(self.touch(put, ("move", FEW, "x", 1, 0, "y", 1, 0, 0)), True)
        self.assertIs(self.touch(put, ("move", (0, 5, 1, 0), "y", 1, 0, "x", 1, 10, 0)), False)
        self.assertIs(self.touch(("put", (0, 5, 1, 0), "x", 1, 0, 0, 1),
                                 ("move", (5, 10, 1, 0), "y", 1, 0, "x", 1, 0, 0)), False)

    def test_equal_integers_of_puts(self):
        put = ("put", FEW, "x", 1, 0, 2, 3)
        self.assertIs(self.touch(put, put), False)
        self.assertIs(self.touch(put, ("put", FEW, "x", 1, 0, 2, 4)), True)
        # The cell 3 is the one that both write.
        one = ("put", (3, 4, 1, 0), "x", 1, 0, 0, 9)
        self.assertIs(self.touch(put, one), False)
        self.assertIs(self.touch(put, ("put", (4, 5, 1, 0), "x", 1, 0, 0, 9)), True)
        self.assertIs(self.touch(("put", FEW, "x", 0, 3, 0, 9), one), False)
        self.assertIs(self.touch(("put", FEW, "x", 0, 3, 2, 3), one), True)
        self.assertIs(self.touch(("put", (3, 4, 1, 0), "x", 0, 3, 2, 3), one), False)
        self.assertIs(self.touch(("put", FEW, "x", 0, 3, 0, 9), ("put", FEW, "x", 0, 4, 0, 8)), False)
        self.assertIs(self.touch(("put", FEW, "x", 0, 3, 0, 9), ("put", (2, 2, 1, 0), "x", 0, 3, 0, 8)), False)

    def test_unlike_arrays_and_two_reads(self):
        self.assertIs(self.touch(("put", FEW, "x", 1, 0, 0, 1), ("put", FEW, "y", 1, 0, 0, 2)), False)
        self.assertIs(self.touch(("move", FEW, "y", 1, 0, "x", 1, 0, 0), ("move", FEW, "z", 1, 0, "x", 1, 0, 0)), False)

    def test_barriers_and_waves_do_not_count_for_touching(self):
        for barriers in ([], [1]):
            kernel = Kernel(10, ONE, barriers)
            self.assertIs(touches(kernel, 0, 1), True)
            self.assertEqual([count_steps(kernel, [0, 1], wave) for wave in (1, 5, 10, 32)], [1, 1, 0, 0])
            self.assertEqual([fewest_by_moving(kernel, wave) for wave in (1, 5, 10, 32)], [1, 1, 0, 0])
            self.assertEqual(best_order(kernel, 10), ([0, 1], []))

    def test_levels_count_steps_through_pairs_that_only_touch(self):
        # 0 and 1 touch in one lane alone and need no parting; 1 and 2 need it.
        kernel = Kernel(10, [("put", FEW, "x", 1, 0, 0, 1), ("move", FEW, "y", 1, 0, "x", 1, 0, 0),
                             ("move", FEW, "z", 1, 0, "y", 1, 1, 0), ("put", FEW, "w", 1, 0, 0, 1)])
        self.assertEqual(fewest_by_moving(kernel), 1)
        self.assertEqual(best_order(kernel), ([0, 1, 3, 2], [3]))
        self.assertEqual(count_steps(kernel, [0, 1, 2]), 1)
        self.assertEqual(count_steps(kernel, [0, 1]), 0)
        self.assertIsNone(count_steps(kernel, [0, 2]))

    def test_order_of_levels_and_where_they_begin(self):
        three = Kernel(10, [("put", FEW, "a", 1, 0, 0, 1), ("move", FEW, "b", 1, 0, "a", 1, 1, 0),
                            ("move", FEW, "c", 1, 0, "b", 1, 1, 0), ("put", FEW, "d", 1, 0, 0, 1),
                            ("move", FEW, "e", 1, 0, "d", 1, 1, 0), ("put", FEW, "f", 1, 0, 0, 1)])
        self.assertEqual(best_order(three), ([0, 3, 5, 1, 4, 2], [3, 5]))
        self.assertEqual(fewest_by_moving(three), 2)
        self.assertEqual(chain(three), [0, 1, 2])
        self.assertEqual(rearranged(three).barriers, [3, 5])
        self.assertEqual(len(fewest_barriers(three)), 3)

    def test_few_statements(self):
        for wave in WAVES:
            empty, one = Kernel(10, []), Kernel(10, ONE[:1])
            self.assertEqual((fewest_by_moving(empty, wave), best_order(empty, wave)), (0, ([], [])))
            self.assertEqual(chain(empty, wave), [])
            self.assertEqual(rearranged(empty, wave), empty)
            self.assertEqual((fewest_by_moving(one, wave), best_order(one, wave)), (0, ([0], [])))
            self.assertEqual(rearranged(one, wave), one)
            self.assertEqual(count_steps(one, chain(one, wave), wave), 0)

    def test_stuck_races(self):
        for call in (fewest_by_moving, best_order, chain, rearranged):
            self.assertIsNone(call(STUCK))
            self.assertIsNone(call(STUCK, 32))
        self.assertIs(touches(STUCK, 1, 2), True)
        self.assertEqual(count_steps(STUCK, [1, 2]), 1)
        shift = Kernel(10, [("move", FEW, "x", 1, 0, "x", 1, 1, 0)])
        self.assertEqual([fewest_by_moving(shift, wave) for wave in (1, 9, 10)], [None, None, 0])

    def test_steps_of_all_lists(self):
        for number, kernel in enumerate(busy_kernels(39, 100, most_statements=4)):
            wave = WAVES[number % 4]
            touching, needed = do_touch(kernel), need_parting(kernel, wave)
            for many in range(4):
                for numbers in permutations(range(-1, len(kernel) + 1), many):
                    pairs = list(zip(numbers, numbers[1:]))
                    steps = None
                    if all(0 <= place < len(kernel) for place in numbers) and all(pair in touching for pair in pairs):
                        steps = len([pair for pair in pairs if pair in needed])
                    self.assertEqual(count_steps(kernel, list(numbers), wave), steps)

    def test_lists_that_are_no_chains(self):
        self.assertEqual(count_steps(EXAMPLE, []), 0)
        self.assertEqual([count_steps(EXAMPLE, [number]) for number in range(4)], [0, 0, 0, 0])
        for numbers in ([-1], [4], [GREAT], [-GREAT], [0, 4], [-1, 0], [4, 0], [1, 0], [0, 0], [0, 1, 1], [0, 1, 0],
                        [1, 2], [0, 2], [0, 1, 2], [0, 1, 2, 3], [0, 1, 4], [3, 2, 1, 0]):
            self.assertIsNone(count_steps(EXAMPLE, numbers), numbers)
        # A statement that races with itself is no chain with itself.
        self.assertIsNone(count_steps(STUCK, [0, 0]))

    def test_returned_lists_are_new_and_arguments_stay(self):
        copy = Kernel(EXAMPLE.lanes, EXAMPLE.statements, EXAMPLE.barriers)
        order, barriers = best_order(EXAMPLE)
        order.clear()
        barriers.clear()
        chain(EXAMPLE).clear()
        rearranged(EXAMPLE).statements.clear()
        self.assertEqual(best_order(EXAMPLE), ([0, 2, 1, 3], [2]))
        self.assertIs(type(best_order(EXAMPLE)), tuple)
        self.assertEqual(count_steps(EXAMPLE, chain(EXAMPLE)), 1)
        self.assertEqual(rearranged(EXAMPLE), Kernel(10, [ONE[0], TWO[0], ONE[1], TWO[1]], [2]))
        numbers = [0, 1]
        count_steps(EXAMPLE, numbers)
        self.assertEqual(numbers, [0, 1])
        self.assertEqual(EXAMPLE, copy)

    def test_arguments_by_name(self):
        self.assertIs(touches(v=1, u=0, kernel=EXAMPLE), True)
        for call in (fewest_by_moving, best_order, chain, rearranged):
            self.assertEqual(call(kernel=EXAMPLE), call(EXAMPLE))
            self.assertEqual(call(wave=10, kernel=EXAMPLE), call(EXAMPLE, 10))
        self.assertEqual(fewest_by_moving(wave=10, kernel=EXAMPLE), 0)
        self.assertEqual(count_steps(wave=10, numbers=[0, 1], kernel=EXAMPLE), 0)
        self.assertEqual(count_steps(numbers=[0, 1], kernel=EXAMPLE), 1)

    def test_wave_of_one_lane_where_it_is_left_out(self):
        # The lanes 0 and 1 alone race, so waves of two lanes take all races away.
        kernel = Kernel(4, [("put", (0, 1, 1, 0), "x", 0, 5, 0, 1), ("put", (1, 2, 1, 0), "x", 0, 5, 0, 2)])
        self.assertEqual([fewest_by_moving(kernel), fewest_by_moving(kernel, 2)], [1, 0])
        self.assertEqual([best_order(kernel), best_order(kernel, 2)], [([0, 1], [1]), ([0, 1], [])])
        self.assertEqual([rearranged(kernel).barriers, rearranged(kernel, 2).barriers], [[1], []])
        self.assertEqual([count_steps(kernel, [0, 1]), count_steps(kernel, [0, 1], 2)], [1, 0])
        self.assertEqual(chain(kernel), [0, 1])
        move = Kernel(4, [("move", (0, 2, 1, 0), "x", 1, 0, "x", 1, 1, 0)])
        for call in (fewest_by_moving, best_order, chain, rearranged):
            self.assertIsNone(call(move))
            self.assertIsNotNone(call(move, 2))


class FarTest(Case):
    def test_long_chain(self):
        moves = [("move", MANY, "abcdefghijklm"[number + 1], 1, 0, "abcdefghijklm"[number], 1, 1, 0)
                 for number in range(12)]
        kernel = Kernel(GREAT, moves)
        self.assertEqual(chain(kernel), list(range(12)))
        self.assertEqual(fewest_by_moving(kernel, 32), 11)
        self.assertEqual(best_order(kernel), (list(range(12)), list(range(1, 12))))
        self.assertEqual(count_steps(kernel, list(range(3, 9)), 32), 5)

    def test_touching_far_away(self):
        start = 10 ** 29
        for second in ((start, start + 1, 1, 0), (start - 1, start, 1, 0), (start + 1, GREAT, 1, 0)):
            kernel = Kernel(GREAT, [("put", MANY, "x", 3, 0, 1, 0), ("put", second, "x", 0, 3 * start, 0, start)])
            self.assertIs(touches(kernel, 0, 1), False)
            kernel = Kernel(GREAT, [("put", MANY, "x", 3, 0, 1, 0), ("put", second, "x", 0, 3 * start, 0, start + 1)])
            self.assertIs(touches(kernel, 0, 1), True)
            kernel = Kernel(GREAT, [("put", MANY, "x", 3, 0, 1, 0), ("put", second, "x", 0, 3 * start + 1, 0, 0)])
            self.assertIs(touches(kernel, 0, 1), False)
            kernel = Kernel(GREAT, [("put", MANY, "x", 3, 0, 1, 0), ("put", second, "x", 3, 0, 1, 0)])
            self.assertIs(touches(kernel, 0, 1), False)

    def test_same_lane_far_away(self):
        slope, other = 10 ** 9 + 7, 10 ** 9 + 9
        lane = 10 ** 28 + 1
        kernel = Kernel(GREAT, [("put", (lane, lane + 1, 1, 0), "x", slope, 0, 0, 0),
                                ("put", MANY, "x", other, (slope - other) * lane, 0, 1)])
        self.assertIs(touches(kernel, 0, 1), True)
        self.assertEqual(count_steps(kernel, [0, 1]), 0)
        self.assertEqual(fewest_by_moving(kernel), 0)


class ErrorsTest(Case):
    def test_two_statements(self):
        cases = [(-1, 1, -1), (4, 1, 4), (GREAT, -1, GREAT), (4, 4, 4), (-2, -1, -2), (0, 4, 4), (0, -1, -1),
                 (2, GREAT, GREAT), (1, 1, 1), (2, 1, 1), (3, 0, 0), (0, 0, 0)]
        for u, v, value in cases:
            self.refuses(InvalidNumber, value, touches, EXAMPLE, u, v)
        self.refuses(InvalidNumber, 0, touches, Kernel(3, []), 0, 1)

    def test_wave_check(self):
        for kernel in (EXAMPLE, STUCK, Kernel(3, [])):
            for call in (fewest_by_moving, best_order, chain, rearranged):
                self.refuses_waves(InvalidNumber, call, kernel)
            for numbers in ([], [0], [0, 1], [1, 0], [-1], [9], [GREAT, -GREAT]):
                self.refuses_waves(InvalidNumber, count_steps, kernel, numbers)
        self.assertEqual(len(NO_WAVES), len(set(NO_WAVES)))
