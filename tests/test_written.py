"""Points 2, 3 and 5: which cells are written."""

import random

from memory import places_of
from plain import Case, FEW, GREAT, MANY, a_guard, lanes_of, small_kernels
from stridelanes import written as module
from stridelanes.errors import InvalidArray, InvalidNumber
from stridelanes.kernels import Kernel
from stridelanes.written import count_written, is_written, nth_written, written_below

EXAMPLE = Kernel(10, [("put", FEW, "x", 2, 0, 1, 0), ("put", FEW, "x", 3, 0, 1, 0)])
NO_NAMES = ("", "abcdefghi", "X", "x1", "x y", " ", "x ", "_", "\u00e4", "`", "{", "xxxxxxxxx", "A" * 8, "z\n")


def puts(rows, lanes=GREAT):
    """A kernel of puts to x, one for each tuple (guard, a, b)."""
    return Kernel(lanes, [("put", guard, "x", a, b, 1, 0) for guard, a, b in rows])


class SmallTest(Case):
    def agrees(self, kernel, arrays="xyz"):
        found = [(statement, lane) for statement in kernel.statements for lane in lanes_of(statement[1])]
        for array in arrays:
            cells = sorted({places_of(*row)[0][1] for row in found if row[0][2] == array})
            with self.subTest(lanes=kernel.lanes, statements=kernel.statements, array=array):
                self.assertEqual(count_written(kernel, array), len(cells))
                self.assertEqual([nth_written(kernel, array, number) for number in range(len(cells))], cells)
                self.refuses(InvalidNumber, len(cells), nth_written, kernel, array, len(cells))
                ends = (min(cells, default=0) - 3, max(cells, default=0) + 4)
                near = range(*ends) if ends[1] - ends[0] < 60 else sorted({c + k for c in cells for k in (-1, 0, 1)})
                for cell in [*near, -GREAT, 0, GREAT]:
                    self.assertEqual(written_below(kernel, array, cell), len([c for c in cells if c < cell]))
                    self.assertIs(is_written(kernel, array, cell), cell in cells)
        return found

    def test_examples_of_the_document(self):
        self.assertEqual([count_written(EXAMPLE, "x"), nth_written(EXAMPLE, "x", 3), written_below(EXAMPLE, "x", 7)],
                         [16, 4, 5])
        self.assertIs(is_written(EXAMPLE, "x", 21), True)
        self.assertEqual(count_written(EXAMPLE, "y"), 0)

    def test_functions_are_defined_in_this_file(self):
        self.defined_in(module, "count_written", "written_below", "nth_written", "is_written")

    def test_small_kernels(self):
        self.assertGreater(sum(len(self.agrees(kernel)) for kernel in small_kernels(61, 300)), 1000)
        for kernel in small_kernels(62, 100, most_statements=6, slopes=(0, 1, 5)):
            self.agrees(kernel)
        for kernel in small_kernels(63, 30, factor=10 ** 29 + 3):
            self.agrees(kernel)

    def test_several_statements_that_write_the_same_cells_in_part(self):
        chance = random.Random(64)
        for _ in range(300):
            lanes = chance.randint(1, 80)
            self.agrees(puts([(a_guard(chance, lanes), chance.randint(-6, 6), chance.randint(-20, 20))
                              for _ in range(chance.randint(2, 6))], lanes), "x")

    def test_long_runs_of_many_progressions(self):
        # Long enough that the cell with a number is looked for by how the progressions grow.
        chance = random.Random(65)
        for _ in range(12):
            kernel = puts([((0, 400, 1, 0), chance.choice((2, 3, -5, 7, -11)), chance.randint(-900, 900))
                           for _ in range(chance.randint(2, 6))], 400)
            cells = sorted({a * lane + b for _, _, _, a, b, _, _ in kernel.statements for lane in range(400)})
            self.assertEqual(count_written(kernel, "x"), len(cells))
            for number in [0, len(cells) - 1, *range(0, len(cells), 7)]:
                self.assertEqual(nth_written(kernel, "x", number), cells[number])
                self.assertEqual(written_below(kernel, "x", cells[number]), number)
                self.assertEqual(written_below(kernel, "x", cells[number] + 1), number + 1)

    def test_equal_cells_of_many_statements(self):
        rows = [(FEW, 2, 1)] * 3 + [((0, 10, 2, 0), 2, 1), (FEW, -2, 19), ((3, 4, 1, 0), 0, 7)]
        kernel = puts(rows, 10)
        self.agrees(kernel, "x")
        self.assertEqual(count_written(kernel, "x"), 10)

    def test_one_cell_and_no_cells(self):
        self.agrees(puts([(FEW, 0, -4), ((5, 5, 1, 0), 1, 0), ((2, 3, 4, 3), 0, 9), ((2, 3, 4, 2), -7, 9)], 10), "x")
        self.agrees(Kernel(10, []), "x")
        self.agrees(puts([((5, 5, 1, 0), 1, 0)], 10), "x")

    def test_reads_do_not_write(self):
        kernel = Kernel(10, [("sum", FEW, "z", 1, 0, "x", 2, 0, "y", 3, 0)])
        self.assertEqual([count_written(kernel, array) for array in "xyz"], [0, 0, 10])
        self.assertIs(is_written(kernel, "x", 4), False)
        self.assertIs(is_written(kernel, "z", 4), True)

    def test_races_and_barriers_are_no_matter(self):
        kernel = puts([(FEW, 0, 5), (FEW, 1, 0), (FEW, 1, 1)], 10)
        self.assertEqual([count_written(other, "x") for other in (kernel, kernel.with_barriers([1, 2]))], [11, 11])

    def test_many_statements_of_many_arrays(self):
        kernel = Kernel(10, [("put", FEW, "vx"[number % 2], 1, number, 0, 0) for number in range(12)])
        self.assertEqual([count_written(kernel, array) for array in ("v", "x", "vx")], [20, 20, 0])
        self.assertEqual([nth_written(kernel, "x", number) for number in (0, 19)], [1, 20])

    def test_kernel_stays_and_arguments_by_name(self):
        copy = Kernel(10, EXAMPLE.statements)
        self.assertEqual(count_written(array="x", kernel=EXAMPLE), 16)
        self.assertEqual(written_below(cell=7, array="x", kernel=EXAMPLE), 5)
        self.assertEqual(nth_written(number=3, array="x", kernel=EXAMPLE), 4)
        self.assertIs(is_written(cell=5, array="x", kernel=EXAMPLE), False)
        self.assertEqual(EXAMPLE, copy)


class FarTest(Case):
    def by_number(self, kernel, numbers):
        many = count_written(kernel, "x")
        before = None
        for number in sorted({number for number in [0, 1, many - 1, *numbers] if 0 <= number < many}):
            cell = nth_written(kernel, "x", number)
            self.assertIs(is_written(kernel, "x", cell), True)
            self.assertEqual([written_below(kernel, "x", cell), written_below(kernel, "x", cell + 1)],
                             [number, number + 1])
            self.assertTrue(before is None or before < cell)
            before = cell
        self.assertEqual(written_below(kernel, "x", nth_written(kernel, "x", 0)), 0)
        self.refuses(InvalidNumber, many, nth_written, kernel, "x", many)
        return many

    def test_one_statement(self):
        for a, b, low, step, rest in ((3, 7, 0, 1, 0), (-3, 7, 10 ** 20, 1, 0), (GREAT, -GREAT, 5, 10 ** 9 + 7, 3),
                                      (-GREAT, GREAT, 0, GREAT, 5), (1, 0, 0, 7, 2)):
            kernel = puts([((low, GREAT, step, rest), a, b)])
            first = low + (rest - low) % step
            many = (GREAT - 1 - first) // step + 1
            self.assertEqual(self.by_number(kernel, [10 ** 9, 10 ** 20]), many)
            for number in (0, 1, 10 ** 9, 10 ** 20, many // 2, many - 1):
                if number < many:
                    lane = first + step * (number if a > 0 else many - 1 - number)
                    self.assertEqual(nth_written(kernel, "x", number), a * lane + b)
        self.assertEqual(self.by_number(puts([(MANY, 0, -GREAT)]), []), 1)

    def test_multiples(self):
        # The multiples of 2, 3 and 5: below 30 there are 22 of them.
        kernel = puts([(MANY, 2, 0), (MANY, 3, 0), (MANY, 5, 0)])
        kept = [number for number in range(30) if number % 2 == 0 or number % 3 == 0 or number % 5 == 0]
        self.assertEqual(len(kept), 22)
        for turns in (0, 1, 10 ** 20, 2 * GREAT // 30 - 1):
            for at, cell in enumerate(kept):
                if 30 * turns + cell < 2 * GREAT:
                    self.assertEqual(nth_written(kernel, "x", 22 * turns + at), 30 * turns + cell)
                    self.assertEqual(written_below(kernel, "x", 30 * turns + cell), 22 * turns + at)
        # From 2 * GREAT on there are those of 3 and 5, 7 of each 15; from 3 * GREAT on those of 5 alone.
        below = written_below(kernel, "x", 2 * GREAT)
        self.assertEqual(2 * GREAT % 30, 20)
        self.assertEqual(below, 2 * GREAT // 30 * 22 + len([cell for cell in kept if cell < 20]))
        threes, fives, both = GREAT // 3 + 1, GREAT // 5, GREAT // 15 + 1
        middle = [cell for cell in range(30) if cell % 3 == 0 or cell % 5 == 0]
        between = written_below(kernel, "x", 3 * GREAT) - below
        self.assertLess(abs(between - (threes + fives - both)), 3)
        self.assertEqual(len(middle), 14)
        self.assertEqual(count_written(kernel, "x"), below + between + 2 * GREAT // 5)
        self.by_number(kernel, [below - 1, below, below + 1, below + between - 1, below + between, 10 ** 29])

    def test_six_statements(self):
        chance = random.Random(66)
        for slopes in ((2, 3, 5, 7, 11, 13), (101, -103, 107, -109, 113, 127), (1, 2, 4, 8, 16, 32),
                       (6, 10, 15, 6, 10, 15)):
            for spread in (0, 10, 10 ** 29):
                kernel = puts([(MANY, a, chance.randint(-spread, spread)) for a in slopes])
                self.by_number(kernel, [chance.randrange(6 * GREAT) for _ in range(6)])

    def test_great_slopes_and_steps(self):
        chance = random.Random(67)
        for most in (10 ** 3, 10 ** 9, 10 ** 15, 10 ** 29):
            for _ in range(8):
                rows = []
                for _ in range(6):
                    step = chance.randint(1, most)
                    a, b = chance.randint(-most, most), chance.randint(-GREAT, GREAT)
                    rows.append(((0, GREAT, step, chance.randrange(step)), a, b))
                kernel = puts(rows)
                many = count_written(kernel, "x")
                self.by_number(kernel, [chance.randrange(many) for _ in range(3)])

    def test_cells_that_two_have_in_common(self):
        one, other = 10 ** 14 + 31, 10 ** 14 + 67
        both = (GREAT - 1) // other + 1
        self.assertEqual(count_written(puts([(MANY, one, 0), (MANY, other, 0)]), "x"), 2 * GREAT - both)
        self.assertEqual(count_written(puts([(MANY, 6, 0), (MANY, -6, 1)]), "x"), 2 * GREAT)
        # The slopes have no common divisor, so the next common cell is too far away.
        for i, j in ((0, 0), (5, 7), (10 ** 29, 3 * 10 ** 28), (GREAT - 1, 0), (GREAT - 1, GREAT - 1)):
            kernel = puts([(MANY, GREAT - 1, 0), (MANY, GREAT, (GREAT - 1) * i - GREAT * j)])
            self.assertEqual(self.by_number(kernel, [10 ** 29, i + j, i + j + 1]), 2 * GREAT - 1)

    def test_parts_add_up(self):
        chance = random.Random(68)
        for _ in range(30):
            rows = [((0, GREAT, chance.randint(1, 9), 0), chance.randint(-9, 9), chance.randint(-99, 99))
                    for _ in range(4)]
            kernel = puts(rows)
            end = chance.choice((0, 1, 1000, 10 ** 9, chance.randrange(GREAT)))
            low, high, step, rest = rows[0][0]
            cut = [((low, end, step, rest), *rows[0][1:]), ((end, high, step, rest), *rows[0][1:]), *rows[1:]]
            many = count_written(kernel, "x")
            self.assertEqual(count_written(puts(cut), "x"), many)
            # What is written is what one statement writes, and what the others do beside it.
            for number in range(4):
                others = rows[:number] + rows[number + 1:]
                alone = count_written(puts([rows[number]]), "x")
                self.assertLessEqual(max(alone, count_written(puts(others), "x")), many)
                self.assertLessEqual(many, alone + count_written(puts(others), "x"))
            # Shifted so far that no cell is the same, both add up.
            shifted = [(guard, a, b + 10 ** 32) for guard, a, b in rows[:2]]
            self.assertEqual(count_written(puts(rows + shifted), "x"), many + count_written(puts(rows[:2]), "x"))

    def test_mirrored_kernels_write_the_same(self):
        chance = random.Random(69)
        kernel = puts([((0, GREAT, 4, 1), 3, 2), ((7, GREAT - 3, 5, 0), -2, 10 ** 20), (MANY, 0, 1)])
        other = kernel.mirrored()
        self.assertEqual(count_written(other, "x"), count_written(kernel, "x"))
        for number in [0, 1, *[chance.randrange(count_written(kernel, "x")) for _ in range(20)]]:
            self.assertEqual(nth_written(other, "x", number), nth_written(kernel, "x", number))


class ErrorsTest(Case):
    def test_array_check(self):
        for name in NO_NAMES:
            self.refuses(InvalidArray, name, count_written, EXAMPLE, name)
            self.refuses(InvalidArray, name, written_below, EXAMPLE, name, 0)
            self.refuses(InvalidArray, name, is_written, EXAMPLE, name, 0)
            for number in (0, -1, 16, GREAT):
                self.refuses(InvalidArray, name, nth_written, EXAMPLE, name, number)
        for name in ("a", "z", "abcdefgh", "zzzzzzzz"):
            self.assertEqual(count_written(EXAMPLE, name), 0)

    def test_number_that_is_not_there(self):
        for number in (-1, -2, -16, -GREAT, 16, 17, GREAT):
            self.refuses(InvalidNumber, number, nth_written, EXAMPLE, "x", number)
        for array in "yxz":
            for number in (0, -1, 1):
                self.refuses(InvalidNumber, number, nth_written, Kernel(3, []), array, number)
        self.assertEqual(nth_written(EXAMPLE, "x", 15), 27)
        far = puts([(MANY, 7, 3)])
        for number in (GREAT, -GREAT, -1, GREAT + 1):
            self.refuses(InvalidNumber, number, nth_written, far, "x", number)
        self.assertEqual(nth_written(far, "x", GREAT - 1), 7 * (GREAT - 1) + 3)
