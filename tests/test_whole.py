"""Points 6 to 10, across the files: what they tell of the same kernels goes together."""

import random

from memory import calm_kernels, drawn_schedule, memory_list, places_of, run
from plain import Case, GREAT, busy_kernels, lanes_of, races, small_kernels
from stridelanes.barriers import fewest_barriers, needless_barriers, needs_parting, parting_pairs, stuck_race
from stridelanes.cells import content, trace, writer
from stridelanes.comparing import same_memory
from stridelanes.desks import Desk
from stridelanes.errors import Racing, UnlikeLanes
from stridelanes.harmful import count_harmful, first_harmful_race, is_harmless
from stridelanes.kernels import Kernel, accesses
from stridelanes.orders import best_order, chain, count_steps, fewest_by_moving, rearranged, touches
from stridelanes.races import count_races, nth_race, total_races
from stridelanes.readings import read_kernel
from stridelanes.schedules import outcomes, run_schedule, schedule_in_order
from stridelanes.texts import show_kernel
from stridelanes.written import count_written, nth_written


class WholeTest(Case):
    def memory_by_cells(self, kernel):
        """The memory in the end, asked cell by cell."""
        found = []
        for array in sorted({statement[2] for statement in kernel.statements}):
            for number in range(count_written(kernel, array)):
                cell = nth_written(kernel, array, number)
                found.append((array, cell, content(kernel, array, cell)))
        return found

    def test_one_memory_of_cells_schedules_and_rearranged_kernels(self):
        chance, moved = random.Random(131), 0
        for kernel in calm_kernels(132, 120, most_lanes=6, most_statements=6):
            memory = memory_list(run(kernel))
            self.assertEqual(self.memory_by_cells(kernel), memory)
            self.assertEqual(run_schedule(kernel, list(schedule_in_order(kernel))), memory)
            self.assertEqual(run_schedule(kernel, drawn_schedule(chance, kernel)), memory)
            others = [kernel.with_barriers(fewest_barriers(kernel)), rearranged(kernel), kernel.mirrored(),
                      kernel.with_barriers(list(range(1, len(kernel)))), read_kernel(show_kernel(kernel))]
            moved += others[1].statements != kernel.statements
            for other in others:
                self.assertIsNone(first_harmful_race(other))
                self.assertEqual(run_schedule(other, drawn_schedule(chance, other)), memory)
                self.assertEqual(self.memory_by_cells(other), memory)
        self.assertGreater(moved, 5)

    def test_all_outcomes_of_calm_kernels(self):
        for kernel in calm_kernels(133, 80, most_lanes=3, most_statements=4):
            memory = memory_list(run(kernel))
            for other in (kernel, rearranged(kernel), kernel.mirrored(), kernel.with_barriers(fewest_barriers(kernel))):
                self.assertEqual(outcomes(other), [memory])

    def test_harmful_races_of_last_puts_leave_a_cell_differently(self):
        chance, found = random.Random(134), 0
        for _ in range(200):
            lanes = chance.choice((2, 3))
            kernel = Kernel(lanes, [("put", (0, lanes, 1, 0), "x", chance.choice((0, 1, 1, -1)), chance.randint(0, 2),
                                     chance.choice((0, 0, 1)), chance.randint(0, 2)) for _ in range(3)])
            first = first_harmful_race(kernel)
            if first is None:
                self.assertEqual(len(outcomes(kernel)), 1)
                continue
            statements = kernel.statements
            place = places_of(statements[first[0]], first[2])[0]
            last = [max(number for number, statement in enumerate(statements) if lane in lanes_of(statement[1])
                        and places_of(statement, lane)[0] == place) for lane in first[2:]]
            if last == list(first[:2]):
                found += 1
                left = sorted({row for memory in outcomes(kernel) for row in memory if row[:2] == place})
                self.assertGreater(len(left), 1)
        self.assertGreater(found, 20)

    def test_races_harm_and_racing(self):
        refused = 0
        for kernel in small_kernels(135, 200):
            many = len(accesses(kernel))
            pairs = [(e, f) for e in range(many) for f in range(e, many)]
            self.assertEqual(total_races(kernel), sum(count_races(kernel, e, f) for e, f in pairs))
            harmful = [(e, f) for e, f in pairs if count_harmful(kernel, e, f) > 0]
            first = first_harmful_race(kernel)
            self.assertEqual(first and first[:2], harmful[0] if harmful else None)
            for e, f in pairs:
                for number in range(count_races(kernel, e, f)):
                    race = (e, f, *nth_race(kernel, e, f, number))
                    self.assertIs(is_harmless(kernel, *race), (race[2], race[3], True) in races(kernel, e, f, 1))
            for call in (content, writer, trace):
                if harmful:
                    refused += 1
                    self.refuses(Racing, harmful[0], call, kernel, "x", 0)
                else:
                    call(kernel, "x", 0)
        self.assertGreater(refused, 100)

    def test_barriers_orders_and_chains(self):
        stuck = 0
        for kernel in [*busy_kernels(136, 100), *small_kernels(137, 100)]:
            if stuck_race(kernel) is not None:
                stuck += 1
                for call in (fewest_barriers, parting_pairs, fewest_by_moving, best_order, chain, rearranged):
                    self.assertIsNone(call(kernel))
                continue
            fewest, moving = fewest_barriers(kernel), fewest_by_moving(kernel)
            self.assertEqual(len(parting_pairs(kernel)), len(fewest))
            self.assertLessEqual(moving, len(fewest))
            self.assertEqual(moving, len(rearranged(kernel).barriers))
            self.assertEqual(moving, count_steps(kernel, chain(kernel)))
            self.assertEqual(needless_barriers(kernel.with_barriers(fewest)), [])
            for other in (kernel.with_barriers(fewest), rearranged(kernel)):
                self.assertIsNone(first_harmful_race(other))
            for u in range(len(kernel)):
                for v in range(u + 1, len(kernel)):
                    self.assertFalse(needs_parting(kernel, u, v) and not touches(kernel, u, v))
        self.assertGreater(stuck, 10)

    def test_sums_of_kernels(self):
        kernels = list(calm_kernels(138, 80, most_lanes=4, most_statements=5))
        for first, second in zip(kernels, kernels[1:]):
            if first.lanes != second.lanes:
                self.refuses(UnlikeLanes, None, first.__add__, second)
                continue
            both = first + second
            self.assertEqual(total_races(both), total_races(first) + total_races(second))
            memory = memory_list(run(both))
            self.assertEqual(self.memory_by_cells(both), memory)
            self.assertEqual(run_schedule(both, [*schedule_in_order(first), *schedule_in_order(second)]), memory)
            self.assertEqual(self.memory_by_cells(both.mirrored()), memory)
            self.assertEqual(both.mirrored(), first.mirrored() + second.mirrored())
            # A sum that is cut off ahead of its second kernel is the first one.
            for row in trace(both, "x", 0):
                self.assertLess(row[0], len(both))

    def test_mirrored_kernels(self):
        for kernel in small_kernels(139, 150):
            other = kernel.mirrored()
            self.assertEqual(other.mirrored(), kernel)
            self.assertEqual(total_races(other), total_races(kernel))
            self.assertEqual(fewest_barriers(other), fewest_barriers(kernel))
            self.assertEqual(best_order(other), best_order(kernel))
            self.assertEqual(needless_barriers(other), needless_barriers(kernel))
            first = first_harmful_race(kernel)
            self.assertEqual(first is None, first_harmful_race(other) is None)
            if first is None:
                for array in "xy":
                    for cell in range(-5, 15):
                        self.assertEqual(content(other, array, cell), content(kernel, array, cell))
                        found = trace(kernel, array, cell)
                        self.assertEqual({row[0] for row in found}, {row[0] for row in trace(other, array, cell)})

    def test_comparing_goes_together_with_cells(self):
        kernels = [kernel for kernel in calm_kernels(140, 200, most_lanes=5, most_statements=3)
                   if all(statement[0] == "put" for statement in kernel.statements)]
        self.assertGreater(len(kernels), 20)
        for first, second in zip(kernels, kernels[1:]):
            places = sorted({*run(first), *run(second)})
            self.assertIs(same_memory(first, second),
                          all(content(first, *place) == content(second, *place) for place in places))

    def test_desks_build_what_kernels_are(self):
        for kernel in small_kernels(141, 100, most_statements=6):
            desk = Desk(kernel.lanes)
            for statement in kernel.statements:
                desk.add(statement)
            for barrier in kernel.barriers:
                told = desk.put_barrier(barrier)
                self.assertLessEqual(told[1], told[0])
            self.assertEqual(desk.kernel, kernel)
            self.assertEqual(desk, Desk.of_text(show_kernel(kernel)))

    def test_far_kernels(self):
        # Each lane takes what a lane far from it left; the two kernels of the sum go forth and back.
        every, shift = (0, GREAT, 1, 0), 10 ** 29
        forth = Kernel(GREAT, [("move", every, "b", 1, shift, "a", 1, 0, 1),
                               ("move", every, "c", 1, 0, "b", 1, shift, 1)])
        self.assertIsNone(first_harmful_race(forth))
        both = forth + Kernel(GREAT, [("sum", every, "a", 1, 0, "c", 1, 0, "b", 1, 0)])
        self.assertEqual(both.barriers, [2])
        self.assertEqual(total_races(both), 0)
        self.assertEqual(total_races(both.with_barriers([])), GREAT - shift)
        self.assertEqual(fewest_barriers(both), [2])
        for kernel in (both, both.mirrored(), rearranged(both), read_kernel(show_kernel(both))):
            for cell in (0, 7, shift - 1, shift, GREAT - 1):
                expected = cell + 2 + (cell if cell < shift else cell - shift + 1)
                self.assertEqual(content(kernel, "a", cell), expected)
            self.assertEqual(count_written(kernel, "b"), GREAT)
        self.assertEqual(trace(both, "a", shift), [(0, 0), (0, shift), (1, shift), (2, shift)])
