"""Points 2, 3, 5 and 10: what two kernels leave differently."""

import random

from memory import held, run
from plain import Case, FEW, GREAT, MANY, a_guard, small_kernels
from stridelanes import comparing as module
from stridelanes.comparing import count_differences, same_memory
from stridelanes.errors import InvalidArray, NotPlain, Racing
from stridelanes.harmful import first_harmful_race
from stridelanes.kernels import Kernel

ONE = Kernel(10, [("put", FEW, "x", 1, 0, 0, 0)])
TWO = Kernel(10, [("put", FEW, "x", 1, 0, 1, 0)])
NO_NAMES = ("", "abcdefghi", "X", "x1", "x y", " ", "x ", "_", "\u00e4", "`", "{", "xxxxxxxxx", "A" * 8, "z\n")
MOVE = ("move", FEW, "z", 1, 0, "z", 1, 0, 0)


def puts(rows, lanes=GREAT, barriers=None):
    """A kernel of puts to x, one for each tuple (guard, a, b, c, d), with a barrier ahead of each one."""
    return Kernel(lanes, [("put", guard, "x", a, b, c, d) for guard, a, b, c, d in rows],
                  list(range(1, len(rows))) if barriers is None else barriers)


def different_cells(first, second, array):
    """All cells of an array that running the two kernels leaves different."""
    one, two = run(first), run(second)
    return sorted({place[1] for place in [*one, *two] if place[0] == array and held(one, place) != held(two, place)})


def a_put(chance, lanes, array):
    a, b = chance.choice((0, 1, 1, 1, -1, 2, -2, 3)), chance.choice((0, 0, 0, 1, -1, 3, lanes - 1))
    c, d = chance.choice(((a, b), (a, b + 1), (0, chance.randint(-2, 5)), (1, 0), (2, chance.randint(-3, 3))))
    guard = (0, lanes, 1, 0) if chance.random() < 0.5 else a_guard(chance, lanes)
    return ("put", guard, array, a, b, c, d)


def put_kernels(seed, many, most_lanes=12, most_statements=3, arrays="x"):
    """So many kernels of puts without harmful races."""
    chance = random.Random(seed)
    found = []
    while len(found) < many:
        lanes = chance.randint(1, most_lanes)
        statements = [a_put(chance, lanes, array) for array in arrays
                      for _ in range(chance.randint(0, most_statements))]
        kernel = Kernel(lanes, statements, list(range(1, len(statements))))
        if first_harmful_race(kernel) is None:
            found.append(kernel)
    return found


class SmallTest(Case):
    def agrees(self, first, second, arrays="xyz"):
        many = 0
        for array in arrays:
            found = different_cells(first, second, array)
            many += len(found)
            with self.subTest(first=first.statements, second=second.statements, array=array, found=found):
                self.assertEqual(count_differences(first, second, array), len(found))
                self.assertEqual(count_differences(second, first, array), len(found))
        self.assertIs(same_memory(first, second), many == 0)
        return many

    def test_examples_of_the_document(self):
        self.assertEqual(count_differences(ONE, TWO, "x"), 9)
        self.assertIs(same_memory(TWO, Kernel(4, [])), True)

    def test_functions_are_defined_in_this_file(self):
        self.defined_in(module, "count_differences", "same_memory")

    def test_small_kernels(self):
        kernels = put_kernels(71, 700)
        found = [self.agrees(first, second, "xy") for first, second in zip(kernels, kernels[1:])]
        self.assertTrue({0, 1, 2, 3, 4, 5, 10} <= set(found))
        self.assertGreater(len([many for many in found if many == 0]), 20)

    def test_kernels_of_several_arrays(self):
        kernels = put_kernels(72, 100, arrays="xyz")
        found = [self.agrees(first, second) for first, second in zip(kernels, kernels[1:])]
        self.assertGreater(max(found), 20)

    def test_longer_runs(self):
        kernels = put_kernels(73, 60, most_lanes=90)
        for first, second in zip(kernels, kernels[1:]):
            self.agrees(first, second, "x")

    def test_a_few_statements_more(self):
        kernels = put_kernels(74, 40, most_statements=5)
        for first, second in zip(kernels, kernels[1:]):
            self.agrees(first, second, "x")

    def test_a_kernel_against_itself_and_its_like(self):
        chance = random.Random(75)
        for kernel in put_kernels(76, 150, arrays="xy"):
            self.assertIs(same_memory(kernel, kernel), True)
            self.assertIs(same_memory(kernel, kernel.mirrored()), True)
            self.assertIs(same_memory(kernel, kernel + kernel), True)
            self.assertEqual(self.agrees(kernel, Kernel(kernel.lanes + 5, kernel.statements, kernel.barriers)), 0)
            statements = []
            for word, (low, high, step, rest), *items in kernel.statements:
                middle = chance.randint(low, high)
                statements += [(word, (low, middle, step, rest), *items), (word, (middle, high, step, rest), *items)]
            cut = Kernel(kernel.lanes, statements, list(range(1, len(statements))))
            self.assertEqual(self.agrees(kernel, cut), 0)

    def test_against_a_kernel_that_writes_nothing(self):
        for kernel in put_kernels(77, 150):
            for empty in (Kernel(3, []), Kernel(9, [("put", (4, 4, 1, 0), "x", 1, 0, 0, 0)]),
                          Kernel(9, [("put", (0, 9, 1, 0), "y", 1, 0, 1, 0)])):
                found = [cell for (_, cell), integer in run(kernel).items() if cell != integer]
                self.assertEqual(count_differences(kernel, empty, "x"), len(found))
                self.assertEqual(count_differences(empty, kernel, "x"), len(found))

    def test_a_put_that_writes_the_number_of_the_cell(self):
        for a, b in ((1, 0), (-3, 7), (GREAT, -GREAT), (0, 4), (0, -GREAT)):
            kernel = puts([(FEW, a, b, a, b)], 10)
            self.assertIs(same_memory(kernel, Kernel(1, [])), True)
            self.assertEqual(count_differences(kernel, Kernel(1, []), "x"), 0)
            self.assertEqual(count_differences(kernel, puts([(FEW, a, b, a, b + 1)], 10), "x"), 1 if a == 0 else 10)

    def test_slopes_that_meet_in_one_cell(self):
        # One puts 2 * lane, the other 12 - lane into the same cells: both put 8 for the lane 4.
        for c, d, many in ((-1, 12, 9), (-1, 13, 10), (-1, 30, 10), (-1, 0, 9), (2, 0, 0), (2, 1, 10), (0, 6, 9)):
            first, second = puts([(FEW, 3, 1, 2, 0)], 10), puts([(FEW, 3, 1, c, d)], 10)
            self.assertEqual(count_differences(first, second, "x"), many)
            self.assertEqual(different_cells(first, second, "x"),
                             [3 * lane + 1 for lane in range(10) if 2 * lane != c * lane + d])
        # Another statement writes over the cell in which they meet.
        first = puts([(FEW, 3, 1, 2, 0), ((4, 5, 1, 0), 3, 1, 0, 9)], 10)
        self.assertEqual(count_differences(first, puts([(FEW, 3, 1, -1, 12)], 10), "x"), 10)

    def test_one_cell_of_many_lanes(self):
        first = Kernel(10, [("put", (3, 10, 2, 1), "x", 0, 5, 0, 7)])
        for integer, many in ((7, 0), (5, 1), (6, 1)):
            self.assertEqual(self.agrees(first, Kernel(4, [("put", (1, 2, 1, 0), "x", 0, 5, integer, 0)])), many)
        one_lane = Kernel(10, [("put", (3, 4, 1, 0), "x", 0, 5, 2, 1)])
        self.assertEqual(self.agrees(first, one_lane), 0)

    def test_without_statements(self):
        self.assertIs(same_memory(Kernel(3, []), Kernel(9, [])), True)
        self.assertEqual(count_differences(Kernel(3, []), Kernel(9, []), "x"), 0)

    def test_harmless_races(self):
        first = puts([(FEW, 1, 0, 2, 3), (FEW, 1, 1, 2, 5)], 10, [])
        self.assertEqual(self.agrees(first, puts([((0, 11, 1, 0), 1, 0, 2, 3)], 11)), 0)
        second = puts([(FEW, 1, 0, 2, 3), ((0, 9, 1, 0), -1, 9, -2, 21)], 10, [])
        self.assertEqual(self.agrees(second, puts([(FEW, 1, 0, 2, 3)], 10)), 0)

    def test_kernels_stay_and_arguments_by_name(self):
        self.assertEqual(count_differences(array="x", second=TWO, first=ONE), 9)
        self.assertIs(same_memory(second=TWO, first=ONE), False)
        self.assertEqual((ONE, TWO), (Kernel(10, ONE.statements), Kernel(10, TWO.statements)))


class FarTest(Case):
    def test_by_a_factor(self):
        kernels = put_kernels(78, 200)
        for first, second in zip(kernels, kernels[1:]):
            for factor in (GREAT // 7, -10 ** 28 - 3):
                far = [Kernel(kernel.lanes, [(*row[:3], *[factor * number for number in row[3:]])
                                             for row in kernel.statements], kernel.barriers)
                       for kernel in (first, second)]
                self.assertEqual(count_differences(*far, "x"), len(different_cells(first, second, "x")))

    def test_lanes_by_a_factor(self):
        # Each lane of the small kernels stands for very many neighbouring ones, and so does each cell.
        many = 10 ** 28
        for c, d in ((0, 0), (1, 0), (1, 1), (2, 0)):
            for low, high in ((0, 7), (2, 9), (3, 3), (5, 6)):
                small = [puts([(FEW, 1, 0, 0, -1)], 10),
                         puts([((0, 8, 1, 0), 1, 0, 0, -1), ((low, high, 1, 0), 1, 0, c, d)], 10)]
                great = [puts([((0, 10 * many, 1, 0), 1, 1, 0, -1)]),
                         puts([((0, 8 * many, 1, 0), 1, 1, 0, -1), ((low * many, high * many, 1, 0), 1, 1, c, d + 1)])]
                # Cells that a put fills with c * lane + d never hold -1 here.
                self.assertEqual(count_differences(*great, "x"), many * len(different_cells(*small, "x")))

    def test_example_with_very_many_lanes(self):
        first, second = puts([(MANY, 1, 0, 0, 0)]), puts([(MANY, 1, 0, 1, 0)])
        self.assertEqual(count_differences(first, second, "x"), GREAT - 1)
        self.assertEqual(count_differences(second, Kernel(4, []), "x"), 0)
        self.assertIs(same_memory(first, second), False)

    def test_steps(self):
        every, third = puts([(MANY, 2, 0, 0, 1)]), puts([(MANY, 2, 0, 0, 1), ((5, GREAT, 3, 1), 2, 0, 0, 2)])
        self.assertEqual(count_differences(every, third, "x"), (GREAT - 1 - 7) // 3 + 1)
        seventh = puts([(MANY, 2, 0, 0, 1), ((0, GREAT, 7, 0), 2, 0, 0, 2)])
        threes, sevens, both = (GREAT - 8) // 3 + 1, GREAT // 7 + 1, (GREAT - 8) // 21 + 1
        # The lanes 7, 28, 49 and so on are in both guards, and both put 2.
        self.assertEqual(count_differences(third, seventh, "x"), threes + sevens - 2 * both)

    def test_shifts(self):
        # The second kernel writes what the first one does, one cell further.
        for shift in (1, 5, 10 ** 20):
            first, second = puts([(MANY, 1, 0, 1, 7)]), puts([(MANY, 1, shift, 1, 7)])
            self.assertEqual(count_differences(first, second, "x"), GREAT + shift)
            second = puts([(MANY, 1, shift, 1, 7 + shift)])
            self.assertEqual(count_differences(first, second, "x"), 2 * shift)

    def test_meeting_in_one_cell_far_away(self):
        lane = 10 ** 29 + 3
        for at, many in ((lane, GREAT - 1), (GREAT, GREAT), (GREAT - 1, GREAT - 1), (-1, GREAT), (0, GREAT - 1)):
            first, second = puts([(MANY, -3, 5, 7, 0)]), puts([(MANY, -3, 5, 2, 5 * at)])
            self.assertEqual(count_differences(first, second, "x"), many)
        self.assertEqual(count_differences(puts([(MANY, -3, 5, 7, 0)]), puts([(MANY, -3, 5, 2, 1)]), "x"), GREAT)

    def test_three_statements_on_each_side(self):
        first = puts([(MANY, slope, 0, slope, 1) for slope in (2, 3, 5)])
        second = puts([(MANY, slope, 0, slope, 2) for slope in (7, 11, 13)])
        self.assertIs(same_memory(first, first), True)
        self.assertIs(same_memory(first, first.mirrored()), True)
        # All that both write is different, as one puts the number of the cell and 1, the other one and 2.
        both = puts([(MANY, slope, 0, 0, -1) for slope in (2, 3, 5, 7, 11, 13)])
        unwritten = Kernel(GREAT, [])
        self.assertEqual(count_differences(first, second, "x"), count_differences(both, unwritten, "x"))
        changed = puts([(MANY, slope, 0, slope, 1) for slope in (2, 3)] + [(MANY, 5, 0, 5, 2)])
        self.assertEqual(count_differences(first, changed, "x"), GREAT)
        changed = puts([(MANY, 2, 0, 2, 2)] + [(MANY, slope, 0, slope, 1) for slope in (3, 5)])
        # Below 2 * GREAT the even cells that are no multiples of 3 or 5 are 8 of each 30; 2 * GREAT leaves 20.
        left = [cell for cell in range(0, 20, 2) if cell % 3 and cell % 5]
        self.assertEqual(count_differences(first, changed, "x"), 2 * GREAT // 30 * 8 + len(left))

    def test_parts_add_up(self):
        chance = random.Random(79)
        for _ in range(30):
            guard = (0, GREAT, chance.randint(1, 9), 0)
            rows = [(guard, 1, 0, chance.randint(-2, 2), chance.randint(-3, 3)), (MANY, 3, 1, 0, 5)]
            whole, second = puts(rows), puts([(MANY, 2, 0, 1, 0)])
            place = chance.choice((0, 1, 10 ** 9, chance.randrange(GREAT)))
            pieces = [((0, place, *guard[2:]), *rows[0][1:]), ((place, GREAT, *guard[2:]), *rows[0][1:]), rows[1]]
            self.assertEqual(count_differences(puts(pieces), second, "x"), count_differences(whole, second, "x"))
            self.assertIs(same_memory(puts(pieces), whole), True)
            # Changed in two parts of the lanes that it has alone, one kernel differs as often as in both together.
            changed = [puts([rows[0], (part, 1, 0, 1, 10 ** 31), rows[1]])
                       for part in ((0, place, 1, 0), (place, GREAT, 1, 0), MANY)]
            found = [count_differences(whole, other, "x") for other in changed]
            self.assertEqual(found[0] + found[1], found[2])


class ErrorsTest(Case):
    def setUp(self):
        self.racing = Kernel(10, [("put", FEW, "x", 1, 0, 1, 0), ("put", FEW, "x", 1, 1, 1, 0)])
        self.other_racing = Kernel(10, [MOVE, ("put", FEW, "y", 0, 1, 1, 0)])
        self.moving = Kernel(10, [*ONE.statements, *TWO.statements, MOVE], [1, 2])
        self.other_moving = Kernel(10, [MOVE])

    def test_array_check_is_the_first(self):
        for name in NO_NAMES:
            for first in (ONE, self.racing, self.moving):
                for second in (TWO, self.other_racing, self.other_moving):
                    self.refuses(InvalidArray, name, count_differences, first, second, name)

    def test_racing_and_plain(self):
        # The writes of the other racing kernel are the accesses 1 and 2.
        cases = [(self.racing, ONE, Racing, (0, 1)), (ONE, self.racing, Racing, (0, 1)),
                 (self.racing, self.other_racing, Racing, (0, 1)), (self.other_racing, self.racing, Racing, (2, 2)),
                 (self.moving, self.racing, Racing, (0, 1)), (self.racing, self.moving, Racing, (0, 1)),
                 (self.other_racing, self.other_moving, Racing, (2, 2)), (self.moving, ONE, NotPlain, 2),
                 (ONE, self.moving, NotPlain, 2), (self.moving, self.other_moving, NotPlain, 2),
                 (self.other_moving, self.moving, NotPlain, 0), (Kernel(3, []), self.other_moving, NotPlain, 0)]
        for first, second, error, value in cases:
            for array in ("x", "y", "unheard"):
                self.refuses(error, value, count_differences, first, second, array)
            self.refuses(error, value, same_memory, first, second)

    def test_sums_are_not_plain(self):
        kernel = Kernel(10, [*ONE.statements, ("sum", FEW, "z", 1, 0, "y", 1, 0, "y", 0, 0)])
        self.refuses(NotPlain, 1, count_differences, kernel, kernel, "x")
        self.refuses(NotPlain, 1, same_memory, kernel, kernel)

    def test_small_kernels(self):
        found = {Racing: 0, NotPlain: 0, None: 0}
        kernels = list(small_kernels(80, 400, most_statements=3))
        for first, second in zip(kernels, kernels[1:]):
            expected = None
            for kernel in (first, second):
                if expected is None and first_harmful_race(kernel) is not None:
                    expected = (Racing, first_harmful_race(kernel)[:2])
            for kernel in (first, second):
                words = [statement[0] for statement in kernel.statements]
                wrong = [number for number, word in enumerate(words) if word != "put"]
                if expected is None and wrong:
                    expected = (NotPlain, wrong[0])
            found[expected and expected[0]] += 1
            if expected is None:
                self.assertEqual(count_differences(first, second, "x"), len(different_cells(first, second, "x")))
            else:
                self.refuses(*expected, count_differences, first, second, "x")
                self.refuses(*expected, same_memory, first, second)
        self.assertTrue(min(found.values()) > 10, found)
