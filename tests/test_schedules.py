"""Points 2, 3, 5 and 10: kernels run lane by lane."""

import random
from itertools import permutations

from memory import (all_outcomes, calm_kernels, drawn_schedule, memory_list, phases_of, run, run_turn_by_turn,
                    turns_in_order)
from plain import Case, FEW, GREAT, MANY, a_statement, busy_kernels, lanes_of, small_kernels
from stridelanes import schedules as module
from stridelanes.barriers import fewest_barriers
from stridelanes.cells import content
from stridelanes.errors import InvalidSchedule
from stridelanes.harmful import first_harmful_race
from stridelanes.kernels import Kernel
from stridelanes.schedules import outcomes, run_schedule, schedule_in_order
from stridelanes.written import count_written, is_written

EXAMPLE = Kernel(2, [("put", (0, 1, 1, 0), "x", 0, 0, 0, 1), ("put", (1, 2, 1, 0), "x", 0, 0, 0, 2)])
NOTHING = ("move", (2, 2, 1, 0), "x", 1, 0, "y", 1, 0, 0)


class RunTest(Case):
    def agrees(self, kernel, schedule):
        number, memory = run_turn_by_turn(kernel, schedule)
        if number != "over":
            self.refuses(InvalidSchedule, number, run_schedule, kernel, schedule)
        else:
            self.assertEqual(run_schedule(kernel, schedule), memory)
        return number

    def test_examples_of_the_document(self):
        self.assertEqual(run_schedule(EXAMPLE, [1, 0]), [("x", 0, 1)])
        self.assertEqual(list(schedule_in_order(EXAMPLE)), [0, 1])
        self.assertEqual(outcomes(EXAMPLE), [[("x", 0, 1)], [("x", 0, 2)]])
        self.assertEqual(outcomes(EXAMPLE.with_barriers([1])), [[("x", 0, 2)]])

    def test_functions_are_defined_in_this_file(self):
        self.defined_in(module, "run_schedule", "schedule_in_order", "outcomes")

    def test_drawn_schedules(self):
        chance, entries = random.Random(81), 0
        for kernel in [*small_kernels(82, 200, slopes=(0, 1, 2)), *busy_kernels(83, 100),
                       *small_kernels(84, 60, most_lanes=5, most_statements=12)]:
            for _ in range(3):
                schedule = drawn_schedule(chance, kernel)
                entries += len(schedule)
                self.assertEqual(self.agrees(kernel, schedule), "over")
        self.assertGreater(entries, 5000)

    def test_entries_left_out_put_in_and_exchanged(self):
        chance, found = random.Random(85), set()
        for kernel in [*small_kernels(86, 150), *busy_kernels(87, 80), *small_kernels(88, 40, most_statements=9)]:
            whole = drawn_schedule(chance, kernel)
            for _ in range(8):
                schedule = list(whole)
                for _ in range(chance.choice((1, 1, 2))):
                    at = chance.randint(0, len(schedule))
                    way = chance.randrange(3)
                    if way == 0:
                        del schedule[at:at + 1]
                    elif way == 1:
                        schedule.insert(at, chance.choice((-1, 0, 1, kernel.lanes - 1, kernel.lanes, GREAT, -GREAT)))
                    elif schedule:
                        at, other = chance.randrange(len(schedule)), chance.randrange(len(schedule))
                        schedule[at], schedule[other] = schedule[other], schedule[at]
                found.add(self.agrees(kernel, schedule))
        self.assertTrue({"over", None, 0, 1, 2, 3, 4, 5, 10} <= found)

    def test_each_beginning_ends_too_early(self):
        chance = random.Random(89)
        for kernel in small_kernels(90, 60):
            whole = drawn_schedule(chance, kernel)
            for many in range(len(whole)):
                self.refuses(InvalidSchedule, None, run_schedule, kernel, whole[:many])
            for lane in (0, kernel.lanes - 1, kernel.lanes, -1):
                self.refuses(InvalidSchedule, len(whole), run_schedule, kernel, [*whole, lane])
                self.refuses(InvalidSchedule, len(whole), run_schedule, kernel, [*whole, lane, -5])

    def test_the_empty_schedule(self):
        for kernel in (Kernel(3, []), Kernel(4, [NOTHING]), Kernel(4, [NOTHING] * 3, [1, 2])):
            self.assertEqual(run_schedule(kernel, []), [])
            self.refuses(InvalidSchedule, 0, run_schedule, kernel, [0])
        self.refuses(InvalidSchedule, None, run_schedule, EXAMPLE, [])

    def test_phases_without_anything_to_do(self):
        put = ("put", (1, 3, 1, 0), "x", 1, 0, 0, 7)
        kernel = Kernel(4, [NOTHING, put, NOTHING, NOTHING, put, NOTHING], [1, 2, 3, 4, 5])
        self.assertEqual(run_schedule(kernel, [2, 1, 1, 2]), [("x", 1, 7), ("x", 2, 7)])
        self.refuses(InvalidSchedule, 1, run_schedule, kernel, [1, 1, 2, 2])
        self.refuses(InvalidSchedule, 4, run_schedule, kernel, [2, 1, 1, 2, 2])
        self.refuses(InvalidSchedule, 0, run_schedule, kernel, [0])
        self.assertEqual(list(schedule_in_order(kernel)), [1, 2, 1, 2])

    def test_a_statement_is_done_as_a_whole(self):
        # Each lane reads what the one before left.
        kernel = Kernel(3, [("move", (0, 3, 1, 0), "x", 1, 1, "x", 1, 0, 5)])
        self.assertEqual(run_schedule(kernel, [0, 1, 2]), [("x", 1, 5), ("x", 2, 10), ("x", 3, 15)])
        self.assertEqual(run_schedule(kernel, [2, 1, 0]), [("x", 1, 5), ("x", 2, 6), ("x", 3, 7)])
        double = Kernel(2, [("sum", (0, 2, 1, 0), "x", 0, 3, "x", 0, 3, "x", 0, 3)])
        self.assertEqual(run_schedule(double, [1, 0]), [("x", 3, 12)])

    def test_ascending_memories(self):
        kernel = Kernel(3, [("put", (0, 3, 1, 0), "b", -1, 0, -1, 0), ("put", (0, 3, 1, 0), "ab", 0, 5, 0, 1),
                            ("put", (0, 1, 1, 0), "a", 0, -7, 0, 2)])
        self.assertEqual(run_schedule(kernel, [0, 1, 2, 0, 0, 1, 2]),
                         [("a", -7, 2), ("ab", 5, 1), ("b", -2, -2), ("b", -1, -1), ("b", 0, 0)])

    def test_arguments_stay_and_go_by_name(self):
        schedule, copy = [1, 0], Kernel(2, EXAMPLE.statements)
        self.assertEqual(run_schedule(schedule=schedule, kernel=EXAMPLE), [("x", 0, 1)])
        self.refuses(InvalidSchedule, 1, run_schedule, schedule=[1, 1], kernel=EXAMPLE)
        self.assertEqual(schedule, [1, 0])
        self.assertEqual(list(schedule_in_order(kernel=EXAMPLE)), [0, 1])
        self.assertEqual(outcomes(kernel=EXAMPLE), outcomes(EXAMPLE))
        self.assertEqual(EXAMPLE, copy)

    def test_returned_lists_are_new(self):
        run_schedule(EXAMPLE, [1, 0]).clear()
        found = outcomes(EXAMPLE)
        found[0].clear()
        found.clear()
        self.assertEqual(outcomes(EXAMPLE), [[("x", 0, 1)], [("x", 0, 2)]])
        self.assertEqual(run_schedule(EXAMPLE, [1, 0]), [("x", 0, 1)])
        self.assertIs(type(run_schedule(EXAMPLE, [1, 0])), list)


class InOrderTest(Case):
    def test_phase_by_phase_and_lane_by_lane(self):
        entries = 0
        for kernel in [*small_kernels(91, 200, most_statements=8), *small_kernels(92, 10, most_lanes=100)]:
            expected = [lane for _, lane in turns_in_order(kernel)]
            entries += len(expected)
            self.assertEqual(list(schedule_in_order(kernel)), expected)
            self.assertEqual(run_schedule(kernel, expected), memory_list(run(kernel)))
        self.assertGreater(entries, 1000)

    def test_walked_twice_at_the_same_time_and_stopped_early(self):
        kernel = Kernel(10, [("put", FEW, "x", 1, 0, 0, 0), ("put", (0, 10, 3, 0), "y", 1, 0, 0, 0)], [1])
        whole = [*range(10), 0, 3, 6, 9]
        pairs = [(next(one), next(other)) for one, other in [[schedule_in_order(kernel), schedule_in_order(kernel)]]
                 for _ in range(5)]
        self.assertEqual(pairs, [(lane, lane) for lane in range(5)])
        one = schedule_in_order(kernel)
        self.assertEqual([next(one), next(one)], [0, 1])
        other = schedule_in_order(kernel)
        self.assertEqual([next(other), next(one), next(other)], [0, 2, 1])
        one.close()
        self.assertEqual(list(other), whole[2:])
        self.assertEqual(list(one), [])
        self.assertEqual(list(schedule_in_order(kernel)), whole)

    def test_without_anything_to_do(self):
        for kernel in (Kernel(3, []), Kernel(4, [NOTHING] * 2, [1])):
            self.assertEqual(list(schedule_in_order(kernel)), [])

    def test_first_entries_of_very_many(self):
        walk = schedule_in_order(Kernel(GREAT, [("put", MANY, "x", 1, 0, 0, 0)]))
        self.assertEqual([next(walk) for _ in range(3)], [0, 1, 2])


class OutcomesTest(Case):
    def test_small_kernels(self):
        lengths = set()
        for seed, slopes in ((93, (0, 1)), (94, (0, 1, 2)), (95, (0,))):
            for kernel in small_kernels(seed, 150, most_lanes=3, most_statements=3, slopes=slopes):
                found = outcomes(kernel)
                self.assertEqual(found, all_outcomes(kernel), kernel.statements)
                lengths.add(len(found))
        self.assertTrue({1, 2, 3, 4} <= lengths, lengths)

    def test_four_statements(self):
        chance, most = random.Random(96), 0
        for lanes, many in ((1, 20), (2, 150)):
            for _ in range(many):
                every = (0, lanes, 1, 0)
                statements = [(word, every, *items) for word, _, *items in
                              [a_statement(chance, lanes, 1, 1) for _ in range(4)]]
                kernel = Kernel(lanes, statements, chance.choice(([], [], [1], [2], [3], [1, 3])))
                found = outcomes(kernel)
                self.assertEqual(found, all_outcomes(kernel), kernel.statements)
                most = max(most, len(found))
        self.assertGreater(most, 10)

    def test_three_lanes_and_four_statements(self):
        every = (0, 3, 1, 0)
        kernel = Kernel(3, [("sum", every, "y", 1, 0, "y", 0, 1, "y", 0, 0),
                            ("sum", every, "x", 1, 0, "x", 0, 1, "x", 1, 0),
                            ("sum", every, "x", 0, 1, "y", 0, 0, "y", 1, 1)])
        self.assertEqual(outcomes(kernel), all_outcomes(kernel))
        found = outcomes(Kernel(3, [*kernel.statements, ("sum", every, "y", 0, 0, "x", 0, 1, "x", -1, 0)]))
        self.assertEqual(len(found), 1662)
        self.assertEqual(found, sorted(found))

    def test_barriers_that_change_nothing(self):
        for kernel in small_kernels(97, 150, most_lanes=3, most_statements=4, slopes=(1, 1, 2)):
            fewest = fewest_barriers(kernel)
            if fewest is not None:
                found = outcomes(kernel.with_barriers(fewest))
                self.assertEqual(found, outcomes(kernel.with_barriers(list(range(1, len(kernel))))))
                self.assertEqual(len(found), 1)

    def test_one_memory_without_harmful_races(self):
        calm = 0
        for kernel in small_kernels(98, 300, most_lanes=3, most_statements=4):
            if first_harmful_race(kernel) is None:
                calm += 1
                self.assertEqual(outcomes(kernel), [memory_list(run(kernel))])
        self.assertGreater(calm, 50)

    def test_harmful_writes_of_puts_leave_a_cell_differently(self):
        # Each lane of the kernel does one statement, so its write is its last one.
        for kernel in small_kernels(99, 100, most_lanes=3, most_statements=1, slopes=(0,)):
            puts = [statement for statement in kernel.statements if statement[0] == "put"]
            if puts:
                many = len(lanes_of(puts[0][1]))
                self.assertEqual(len(outcomes(kernel)), 1 if first_harmful_race(kernel) is None else many)

    def test_without_anything_to_do(self):
        for kernel in (Kernel(3, []), Kernel(3, [NOTHING]), Kernel(3, [NOTHING] * 4, [1, 2, 3])):
            self.assertEqual(outcomes(kernel), [[]])

    def test_every_order_of_three_lanes(self):
        total = Kernel(3, [("sum", (0, 3, 1, 0), "x", 0, 0, "x", 0, 0, "y", 2, 1)])
        last = Kernel(3, [("move", (0, 3, 1, 0), "x", 0, 0, "y", 2, 1, 0)])
        for kernel, integers in ((total, [9]), (last, [1, 3, 5])):
            found = [run_schedule(kernel, list(order)) for order in permutations(range(3))]
            self.assertEqual(sorted(found), sorted(outcomes(kernel) * (6 // len(integers))))
            self.assertEqual(outcomes(kernel), [[("x", 0, integer)] for integer in integers])

    def test_cells_go_together_with_schedules(self):
        chance = random.Random(100)
        for kernel in calm_kernels(101, 60, most_lanes=6, most_statements=6):
            memory = run_schedule(kernel, drawn_schedule(chance, kernel))
            for array, cell, integer in memory:
                self.assertEqual(content(kernel, array, cell), integer)
                self.assertIs(is_written(kernel, array, cell), True)
            for array in "xy":
                self.assertEqual(count_written(kernel, array), len([row for row in memory if row[0] == array]))


class FarTest(Case):
    def test_few_of_very_many_lanes(self):
        one, other = 10 ** 29 + 1, 3 * 10 ** 29
        kernel = Kernel(GREAT, [("put", (one, one + 2, 1, 0), "x", 1, 0, 0, 7), ("put", (9, 9, 1, 0), "x", 1, 0, 0, 8),
                                ("move", (0, GREAT, GREAT, other), "y", 1, 0, "x", 0, one, 1)], [1, 2])
        self.assertEqual(run_schedule(kernel, [one + 1, one, other]),
                         [("x", one, 7), ("x", one + 1, 7), ("y", other, 8)])
        for schedule, value in (([], None), ([one], None), ([one, one + 1], None), ([one, one], 1), ([other], 0),
                                ([one, one + 1, one], 2), ([one, other], 1), ([one, one + 1, other, other], 3),
                                ([GREAT], 0), ([-1], 0), ([one, GREAT + 5], 1), ([one - 1], 0), ([one + 2], 0)):
            self.refuses(InvalidSchedule, value, run_schedule, kernel, schedule)

    def test_very_many_lanes_that_do_something(self):
        kernel = Kernel(GREAT, [("put", MANY, "x", 1, 0, 0, 7), ("put", (0, GREAT, 2, 1), "x", 1, 0, 0, 8)], [1])
        for schedule, value in (([], None), ([5], None), ([GREAT - 1, 0], None), ([3, 4, 3], 2), ([GREAT], 0),
                                ([0, GREAT - 1, -1], 2), (list(range(200)), None), (list(range(199)) + [7], 199)):
            self.refuses(InvalidSchedule, value, run_schedule, kernel, schedule)
        # Of one phase, each lane does its statements in their order and no third one.
        both = kernel.with_barriers([])
        self.refuses(InvalidSchedule, None, run_schedule, both, [3, 4, 3])
        self.refuses(InvalidSchedule, 3, run_schedule, both, [3, 4, 3, 3])
        self.refuses(InvalidSchedule, 2, run_schedule, both, [3, 4, 4])

    def test_twelve_phases_of_one_lane_each(self):
        lanes = [10 ** 29 * k // 2 + k for k in range(12)]
        statements = [("move", (lane, lane + 1, 1, 0), "x", 0, -k - 1, "x", 0, -k, 10 ** k)
                      for k, lane in enumerate(lanes)]
        kernel = Kernel(GREAT, statements, list(range(1, 12)))
        memory = run_schedule(kernel, lanes)
        self.assertEqual(memory, [("x", -k, sum(10 ** n for n in range(k))) for k in range(12, 0, -1)])
        self.assertEqual(len(phases_of(kernel)), 12)
        for at in range(11):
            swapped = [*lanes[:at], lanes[at + 1], lanes[at], *lanes[at + 2:]]
            self.refuses(InvalidSchedule, at, run_schedule, kernel, swapped)
