"""Points 2, 3, 5, 7, 8 and 10: what cells hold in the end."""

import random
from math import comb

from memory import all_behind, calm_kernels, held, last_writer, run
from plain import Case, FEW, GREAT, MANY, races, small_kernels
from stridelanes import cells as module
from stridelanes.barriers import fewest_barriers
from stridelanes.cells import content, trace, writer
from stridelanes.errors import InvalidArray, Racing
from stridelanes.harmful import first_harmful_race
from stridelanes.kernels import Kernel
from stridelanes.orders import rearranged

EXAMPLE = Kernel(10, [("put", FEW, "x", 2, 0, 1, 0), ("move", FEW, "y", 1, 0, "x", 3, 1, 0)], [1])
NAMES = "abcdefghijklm"
NO_NAMES = ("", "abcdefghi", "X", "x1", "x y", " ", "x ", "_", "\u00e4", "`", "{", "xxxxxxxxx", "A" * 8, "z\n")
CALLS = (content, writer, trace)


def behind_each_other(statements):
    return Kernel(GREAT, statements, list(range(1, len(statements))))


def sums_of_two(first, second):
    """Twelve sums, each of what the one before left in two cells; the first cells lie where its own do."""
    return behind_each_other([("sum", MANY, NAMES[k + 1], *first(k), NAMES[k], *first(k), NAMES[k], *second(k))
                              for k in range(12)])


class SmallTest(Case):
    def agrees(self, kernel):
        """All cells that are written or near to them are as running the kernel leaves them."""
        memory = run(kernel)
        near = {cell + way for _, cell in memory for way in (-2, -1, 0, 1, 2)} | set(range(-3, 4))
        for array in ("x", "y", "unheard"):
            for cell in sorted(near):
                place = (array, cell)
                with self.subTest(lanes=kernel.lanes, statements=kernel.statements, barriers=kernel.barriers, at=place):
                    self.assertEqual(content(kernel, array, cell), held(memory, place))
                    self.assertEqual(writer(kernel, array, cell), last_writer(kernel, place))
                    found = trace(kernel, array, cell)
                    self.assertEqual(found, sorted(all_behind(kernel, place)))
                    self.assertEqual(found == [], place not in memory)
        return memory

    def test_examples_of_the_document(self):
        self.assertEqual([content(EXAMPLE, "y", 1), content(EXAMPLE, "y", 0)], [2, 1])
        self.assertEqual(writer(EXAMPLE, "x", 4), (0, 2))
        self.assertEqual([trace(EXAMPLE, "y", 1), trace(EXAMPLE, "y", 0)], [[(0, 2), (1, 1)], [(1, 0)]])
        self.assertIsNone(writer(EXAMPLE, "x", 5))

    def test_functions_are_defined_in_this_file(self):
        self.defined_in(module, "content", "writer", "trace")

    def test_small_kernels(self):
        written, words, lengths = 0, set(), set()
        for kernel in calm_kernels(51, 240):
            self.assertIsNone(first_harmful_race(kernel))
            written += len(self.agrees(kernel))
            words |= {statement[0] for statement in kernel.statements}
            lengths.add(len(kernel))
        self.assertGreater(written, 1000)
        self.assertEqual(words, {"put", "move", "sum"})
        self.assertEqual(lengths, set(range(13)))

    def test_one_cell_of_all_lanes(self):
        for kernel in calm_kernels(52, 60, slopes=(0, 0, 1)):
            self.agrees(kernel)

    def test_kernels_with_few_barriers(self):
        # Here most statements are in one phase, so lanes do several of them, one behind the other.
        several = 0
        for kernel in calm_kernels(53, 200, most_lanes=4, most_statements=4):
            fewest = kernel.with_barriers(fewest_barriers(kernel))
            self.assertEqual(self.agrees(fewest), self.agrees(kernel))
            several += len(fewest) > len(fewest.barriers) + 1
        self.assertGreater(several, 20)

    def test_other_barriers_and_orders_leave_the_same(self):
        for kernel in calm_kernels(54, 60, most_statements=6):
            other = rearranged(kernel)
            for array, cell in run(kernel):
                self.assertEqual(content(other, array, cell), content(kernel, array, cell))

    def test_mirrored_kernels_leave_the_same(self):
        for kernel in calm_kernels(55, 60, most_statements=6):
            for array, cell in run(kernel):
                self.assertEqual(content(kernel.mirrored(), array, cell), content(kernel, array, cell))

    def test_sums_of_kernels(self):
        for kernel in calm_kernels(56, 60, most_statements=6):
            self.agrees(kernel + kernel)

    def test_least_of_the_lanes_that_write(self):
        kernel = Kernel(10, [("put", (2, 10, 3, 1), "x", 0, -5, 0, 7), ("put", (0, 10, 11, 10), "x", 0, -5, 0, 8)])
        self.assertEqual((content(kernel, "x", -5), writer(kernel, "x", -5), trace(kernel, "x", -5)),
                         (7, (0, 4), [(0, 4)]))
        self.assertEqual([content(kernel, "x", -4), writer(kernel, "x", -4), trace(kernel, "x", -4)], [-4, None, []])

    def test_one_lane_with_one_cell(self):
        kernel = Kernel(10, [("put", (3, 4, 1, 0), "x", 0, 5, 2, 1), ("move", (4, 5, 1, 0), "x", 0, 6, "x", 0, 7, 1)])
        self.assertEqual([content(kernel, "x", cell) for cell in (5, 6, 7)], [7, 8, 7])
        self.assertEqual([writer(kernel, "x", cell) for cell in (5, 6, 7)], [(0, 3), (1, 4), None])

    def test_two_reads_of_one_cell(self):
        kernel = Kernel(10, [("put", FEW, "x", 1, 0, 3, 1), ("sum", FEW, "y", -1, 9, "x", 1, 0, "x", 1, 0)])
        for lane in range(10):
            self.assertEqual(content(kernel, "y", 9 - lane), 6 * lane + 2)
            self.assertEqual(trace(kernel, "y", 9 - lane), [(0, lane), (1, lane)])
        self.assertEqual([content(kernel, "y", -1), content(kernel, "y", 10)], [-1, 10])

    def test_a_statement_that_reads_the_array_that_it_writes(self):
        add = ("move", FEW, "x", 2, 1, "x", 2, 1, 5)
        self.assertEqual(content(Kernel(10, [add]), "x", 7), 12)
        self.assertEqual(trace(Kernel(10, [add]), "x", 7), [(0, 3)])
        self.assertEqual(content(Kernel(10, [add] * 12), "x", 7), 67)
        self.assertEqual(trace(Kernel(10, [add] * 12), "x", 7), [(number, 3) for number in range(12)])
        self.assertEqual(content(Kernel(10, [add] * 12), "x", 8), 8)
        # What stands behind in the list does not count for what is read ahead of it.
        later = Kernel(10, [("move", FEW, "x", 2, 1, "x", 2, 0, 0), ("put", FEW, "x", 2, 0, 0, 9)])
        self.assertEqual([content(later, "x", 7), content(later, "x", 6)], [6, 9])
        self.assertEqual([trace(later, "x", 7), trace(later, "x", 6)], [[(0, 3)], [(1, 3)]])

    def test_without_statements_and_without_lanes(self):
        for kernel in (Kernel(3, []), Kernel(10, [("sum", (4, 4, 1, 0), "x", 1, 0, "x", 1, 1, "x", 0, 0)])):
            for cell in (-GREAT, -1, 0, 1, GREAT):
                self.assertEqual(content(kernel, "x", cell), cell)
                self.assertIsNone(writer(kernel, "x", cell))
                self.assertEqual(trace(kernel, "x", cell), [])

    def test_names_of_one_and_eight_letters(self):
        kernel = Kernel(10, [("put", FEW, "abcdefgh", 1, 0, 0, 4)])
        self.assertEqual([content(kernel, name, 3) for name in ("abcdefgh", "abcdefg", "a", "z")], [4, 3, 3, 3])

    def test_returned_lists_are_new_and_kernels_stay(self):
        copy = Kernel(10, EXAMPLE.statements, EXAMPLE.barriers)
        trace(EXAMPLE, "y", 1).clear()
        self.assertEqual(trace(EXAMPLE, "y", 1), [(0, 2), (1, 1)])
        self.assertIs(type(trace(EXAMPLE, "y", 1)), list)
        self.assertIs(type(writer(EXAMPLE, "y", 1)), tuple)
        self.assertEqual(EXAMPLE, copy)
        self.assertEqual(EXAMPLE + EXAMPLE, copy + copy)

    def test_arguments_by_name(self):
        for call in CALLS:
            self.assertEqual(call(cell=1, array="y", kernel=EXAMPLE), call(EXAMPLE, "y", 1))


class FarTest(Case):
    def test_puts_by_slopes_and_steps(self):
        chance = random.Random(57)
        for _ in range(200):
            a, b, c, d = [chance.randint(-GREAT, GREAT) for _ in range(4)]
            step = chance.choice((1, 2, 10 ** 9 + 7, chance.randint(1, GREAT)))
            lane, low = chance.randrange(GREAT), chance.choice((0, 10 ** 20))
            lane = max(lane, low)
            kernel = Kernel(GREAT, [("put", (low, GREAT, step, lane % step), "x", a, b, c, d)])
            self.assertEqual(content(kernel, "x", a * lane + b), c * lane + d)
            self.assertEqual(writer(kernel, "x", a * lane + b), (0, lane))
            self.assertEqual(trace(kernel, "x", a * lane + b), [(0, lane)])
            for cell in (a * lane + b + 1, a * (lane + 1) + b if step > 1 else a * GREAT + b, b - a):
                if abs(a) > 1:
                    self.assertEqual(content(kernel, "x", cell), cell)
                    self.assertIsNone(writer(kernel, "x", cell))

    def test_ends_of_guards(self):
        low, high = 10 ** 20, GREAT - 5
        kernel = Kernel(GREAT, [("put", (low, high, 1, 0), "x", -3, 1, 0, 7)])
        told = [writer(kernel, "x", 1 - 3 * lane) for lane in (low - 1, low, high - 1, high)]
        self.assertEqual(told, [None, (0, low), (0, high - 1), None])

    def test_one_cell_of_very_many_lanes(self):
        first = 10 ** 29 + (5 - 10 ** 29) % (10 ** 9 + 7)
        kernel = Kernel(GREAT, [("put", (10 ** 29, GREAT, 10 ** 9 + 7, 5), "x", 0, -GREAT, 0, 3)])
        self.assertEqual(writer(kernel, "x", -GREAT), (0, first))
        self.assertEqual(content(kernel, "x", -GREAT), 3)

    def test_chain_of_moves(self):
        moves = [("move", MANY, NAMES[k + 1], 1, 0, NAMES[k], 1, 10 ** k, k) for k in range(12)]
        shift, plus = sum(10 ** k for k in range(12)), sum(range(12))
        for barriers in (list(range(1, 12)), []):
            kernel = Kernel(GREAT, moves, barriers)
            if barriers == []:
                self.refuses(Racing, (1, 2), content, kernel, "m", 0)
                continue
            for cell in (0, 1, 10 ** 20, GREAT - shift - 1):
                self.assertEqual(content(kernel, "m", cell), cell + shift + plus)
                self.assertEqual(len(trace(kernel, "m", cell)), 12)
            # The first read is that of the last move; it goes by the greatest shift, beyond the last lane.
            end = GREAT - 1
            self.assertEqual(content(kernel, "m", end), end + 10 ** 11 + 11)
            self.assertEqual(trace(kernel, "m", end), [(11, end)])

    def test_moves_to_and_fro(self):
        # Each move mirrors the lanes and takes one off; twelve of them bring each lane back.
        last = GREAT - 1
        moves = [("move", MANY, NAMES[k + 1], 1, 0, NAMES[k], -1, last, -1) for k in range(12)]
        kernel = behind_each_other(moves)
        for cell in (0, 1, 10 ** 29, last):
            self.assertEqual(content(kernel, "m", cell), cell - 12)
            self.assertEqual(trace(kernel, "m", cell), [(k, last - cell if k % 2 == 0 else cell) for k in range(12)])

    def test_chain_in_one_array(self):
        # Twelve times each cell takes what the next one held: they are one array's parts, far from each other.
        far = 2 * GREAT
        kernel = behind_each_other([("move", MANY, "x", -1, -far * (k + 1), "x", -1, -far * k - 1, 3)
                                    for k in range(12)])
        for lane in (0, 5, 10 ** 29):
            self.assertEqual(content(kernel, "x", -lane - 12 * far), -lane - 12 + 36)
            self.assertEqual(trace(kernel, "x", -lane - 12 * far), [(k, lane + 11 - k) for k in range(12)])
        self.assertEqual(writer(kernel, "x", 1), None)

    def test_sums_of_neighbours(self):
        kernel = sums_of_two(lambda k: (1, 0), lambda k: (1, 1))
        for cell in (0, 7, 10 ** 25 + 3):
            expected = sum(comb(12, way) * (cell + way) for way in range(13))
            self.assertEqual(content(kernel, "m", cell), expected)
            self.assertEqual(trace(kernel, "m", cell), [(k, cell + way) for k in range(12) for way in range(12 - k)])

    def test_sums_of_cells_that_are_all_different(self):
        kernel = sums_of_two(lambda k: (1, 0), lambda k: (1, 2 ** k))
        cell = 10 ** 29
        self.assertEqual(content(kernel, "m", cell), sum(cell + way for way in range(4096)))
        found = trace(kernel, "m", cell)
        self.assertEqual(len(found), 4095)
        self.assertEqual(found, sorted(set(found)))
        self.assertEqual([row for row in found if row[0] < 1], [(0, cell + 2 * way) for way in range(2048)])

    def test_sums_of_one_cell(self):
        kernel = sums_of_two(lambda k: (3, 1), lambda k: (3, 1))
        self.assertEqual(content(kernel, "m", 3 * 10 ** 29 + 1), 4096 * (3 * 10 ** 29 + 1))
        self.assertEqual(trace(kernel, "m", 3 * 10 ** 29 + 1), [(k, 10 ** 29) for k in range(12)])
        self.assertEqual(content(kernel, "m", 3 * 10 ** 29), 3 * 10 ** 29)

    def test_great_slopes_of_reads(self):
        slope = 10 ** 15 + 3
        kernel = behind_each_other([("put", MANY, "x", slope, 7, -5, 1),
                                    ("move", MANY, "y", -1, 0, "x", slope ** 2, 7, 4),
                                    ("sum", MANY, "z", 2, 0, "y", -1, 0, "x", slope, 8)])
        for lane in (0, 2, 10 ** 10):
            self.assertEqual(content(kernel, "y", -lane), -5 * lane * slope + 5)
            self.assertEqual(content(kernel, "z", 2 * lane), -5 * lane * slope + 5 + slope * lane + 8)
            self.assertEqual(trace(kernel, "z", 2 * lane), [(0, lane * slope), (1, lane), (2, lane)])
        # From here on the put has no lane for what the move reads.
        lane = GREAT // slope + 1
        self.assertEqual(content(kernel, "y", -lane), lane * slope ** 2 + 11)
        self.assertEqual(trace(kernel, "y", -lane), [(1, lane)])

    def test_later_statements_write_parts_of_the_cells(self):
        steps = (1, 2, 3, 5, 7, 11)
        kernel = Kernel(GREAT, [("put", (0, GREAT, step, 0), "x", 1, -10 ** 29, 0, step) for step in steps],
                        list(range(1, 6)))
        chance = random.Random(58)
        for lane in [0, 1, 2, 6, 2310, *[chance.randrange(GREAT) for _ in range(200)]]:
            step = max(step for step in steps if lane % step == 0)
            self.assertEqual(content(kernel, "x", lane - 10 ** 29), step)
            self.assertEqual(writer(kernel, "x", lane - 10 ** 29), (steps.index(step), lane))


class ErrorsTest(Case):
    def test_array_check(self):
        racing = EXAMPLE.with_barriers([])
        for call in CALLS:
            for name in NO_NAMES:
                self.refuses(InvalidArray, name, call, EXAMPLE, name, 0)
                self.refuses(InvalidArray, name, call, racing, name, 0)
                self.refuses(InvalidArray, name, call, Kernel(3, []), name, -GREAT)

    def test_racing_check(self):
        for call in CALLS:
            self.refuses(Racing, (0, 1), call, EXAMPLE.with_barriers([]), "x", 0)
            self.refuses(Racing, (0, 1), call, EXAMPLE.with_barriers([]), "unheard", 5)
            self.refuses(Racing, (0, 0), call, Kernel(10, [("put", FEW, "x", 0, 5, 1, 0)]), "y", 5)
        refused = 0
        for kernel in small_kernels(59, 300):
            first = first_harmful_race(kernel)
            if first is None:
                self.assertIs(type(content(kernel, "x", 0)), int)
                continue
            refused += 1
            for call in CALLS:
                self.refuses(Racing, first[:2], call, kernel, "x", 0)
        self.assertGreater(refused, 50)

    def test_harmless_races_are_no_matter(self):
        kernel = Kernel(10, [("put", FEW, "x", 0, 5, 0, 7), ("put", FEW, "x", 0, 5, 0, 7)])
        self.assertGreater(len(races(kernel, 0, 0, 1)), 0)
        self.assertEqual([content(kernel, "x", 5), writer(kernel, "x", 5)], [7, (1, 0)])

    def test_a_race_that_waves_take_away_counts(self):
        kernel = Kernel(2, [("move", (0, 2, 1, 0), "x", 1, 0, "x", 1, 1, 0)])
        self.assertIsNone(first_harmful_race(kernel, 2))
        self.refuses(Racing, (0, 1), content, kernel, "x", 0)
        # The lane that reads is not one of those that write.
        self.assertEqual(content(Kernel(2, [("move", (0, 1, 1, 0), "x", 1, 0, "x", 1, 1, 0)]), "x", 0), 1)
