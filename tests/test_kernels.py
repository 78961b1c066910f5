"""Points 2, 5, 6 and 7: kernels and their accesses."""

import unittest

from stridelanes import kernels
from stridelanes.errors import InvalidBarrier, InvalidLanes, InvalidNumber, InvalidStatement, UnlikeLanes
from stridelanes.kernels import Kernel, accesses, phase_of

GREAT = 10 ** 30
EVERY = (0, 10, 1, 0)
PUT = ("put", EVERY, "x", 2, 0, 1, 0)
MOVE = ("move", EVERY, "y", 1, 0, "x", 3, 1, 0)
SUM = ("sum", EVERY, "z", 1, 5, "x", 2, 1, "y", -1, 9)

BARE = ("put", (1, 7, 2, 1), "v", -3, 4, 5, -6)
FAR = ("move", (2, 10, 3, 2), "w", 2, -1, "v", -1, 7, -8)


class KernelCase(unittest.TestCase):
    def refuses(self, error, value, call, *arguments, **named):
        with self.assertRaises(error) as caught:
            call(*arguments, **named)
        self.assertIs(type(caught.exception), error)
        self.assertEqual(caught.exception.value, value)


class BuildingTest(KernelCase):
    def test_defined_in_this_file(self):
        for name in ("Kernel", "accesses", "phase_of"):
            self.assertEqual(getattr(kernels, name).__module__, "stridelanes.kernels")
        for name in ("lanes", "statements", "barriers"):
            self.assertIsInstance(vars(Kernel)[name], property)
        for name in ("__init__", "__len__", "__eq__", "__add__", "mirrored", "with_barriers"):
            self.assertIn(name, vars(Kernel))

    def test_what_a_kernel_returns(self):
        kernel = Kernel(10, [PUT, MOVE, SUM], [1, 2])
        self.assertEqual(kernel.lanes, 10)
        self.assertEqual(kernel.statements, [PUT, MOVE, SUM])
        self.assertEqual(kernel.barriers, [1, 2])
        self.assertEqual(len(kernel), 3)
        self.assertIs(type(kernel.statements), list)
        self.assertIs(type(kernel.barriers), list)

    def test_kernel_without_statements(self):
        kernel = Kernel(1, [])
        self.assertEqual((kernel.lanes, kernel.statements, kernel.barriers, len(kernel)), (1, [], [], 0))
        self.assertEqual(accesses(kernel), [])

    def test_barriers_as_a_list_as_a_tuple_and_left_out(self):
        as_list, as_tuple = Kernel(10, [PUT, MOVE], [1]), Kernel(10, [PUT, MOVE], (1,))
        self.assertEqual(as_tuple.barriers, [1])
        self.assertIs(type(as_tuple.barriers), list)
        self.assertEqual(as_list, as_tuple)
        self.assertEqual(Kernel(10, [PUT, MOVE]).barriers, [])
        self.assertEqual(Kernel(10, [PUT, MOVE]), Kernel(10, [PUT, MOVE], []))

    def test_returned_lists_are_new(self):
        kernel = Kernel(10, [PUT, MOVE], [1])
        kernel.statements.append(SUM)
        kernel.barriers.clear()
        self.assertEqual(kernel, Kernel(10, [PUT, MOVE], [1]))
        self.assertIsNot(kernel.statements, kernel.statements)
        self.assertIsNot(kernel.barriers, kernel.barriers)
        self.assertIsNot(accesses(kernel), accesses(kernel))

    def test_passed_lists_may_change_later(self):
        statements, barriers = [PUT, MOVE], [1]
        kernel = Kernel(10, statements, barriers)
        other = kernel.with_barriers(barriers)
        statements.reverse()
        statements.append(SUM)
        barriers[0] = 7
        self.assertEqual(kernel.statements, [PUT, MOVE])
        self.assertEqual(kernel.barriers, [1])
        self.assertEqual(other.barriers, [1])

    def test_passed_lists_are_not_modified(self):
        statements, barriers = [PUT, MOVE, SUM], [1, 2]
        kernel = Kernel(10, statements, barriers)
        kernel.with_barriers(barriers)
        kernel.mirrored()
        self.assertEqual((statements, barriers), ([PUT, MOVE, SUM], [1, 2]))

    def test_great_numbers(self):
        put = ("put", (0, GREAT, GREAT, 1), "abcdefgh", -GREAT, GREAT, -GREAT, GREAT)
        kernel = Kernel(GREAT, [put])
        self.assertEqual((kernel.lanes, kernel.statements), (GREAT, [put]))

    def test_arguments_by_name(self):
        kernel = Kernel(barriers=(1,), statements=[PUT, MOVE], lanes=10)
        self.assertEqual(kernel, Kernel(10, [PUT, MOVE], [1]))
        self.assertEqual(Kernel(lanes=10, statements=[PUT]), Kernel(10, [PUT]))
        self.assertEqual(kernel.with_barriers(barriers=[]), Kernel(10, [PUT, MOVE]))
        self.assertEqual(accesses(kernel=kernel), accesses(kernel))
        self.assertEqual(phase_of(statement=1, kernel=kernel), 1)
        self.refuses(InvalidLanes, 0, Kernel, statements=[PUT], lanes=0)


class EqualityTest(KernelCase):
    def test_equal_kernels(self):
        one, other = Kernel(10, [PUT, MOVE], [1]), Kernel(10, [PUT, MOVE], (1,))
        self.assertTrue(one == other)
        self.assertFalse(one != other)
        self.assertTrue(one == one)

    def test_each_part_counts(self):
        kernel = Kernel(10, [PUT, MOVE], [1])
        for other in (Kernel(11, [PUT, MOVE], [1]), Kernel(10, [MOVE, PUT], [1]), Kernel(10, [PUT, MOVE]),
                      Kernel(10, [PUT, PUT], [1]), Kernel(10, [PUT, MOVE, MOVE], [1]),
                      Kernel(10, [PUT, ("move", EVERY, "y", 1, 0, "x", 3, 1, 1)], [1])):
            self.assertFalse(kernel == other)
            self.assertTrue(kernel != other)

    def test_not_equal_to_anything_else(self):
        class Like:
            lanes, statements, barriers = 10, [PUT], []

            def __eq__(self, other):
                return True

        kernel = Kernel(10, [PUT])
        for other in (None, 10, "kernel", [PUT], (10, [PUT], []), {}, object(), Kernel, Like()):
            self.assertFalse(kernel == other)
            self.assertTrue(kernel != other)
        self.assertFalse(Kernel(1, []) == [])
        self.assertFalse(Kernel(1, []) == 0)


class SumTest(KernelCase):
    def test_example_of_the_document(self):
        kernel = Kernel(10, [PUT, MOVE])
        self.assertEqual((kernel + kernel).barriers, [2])
        self.assertEqual((kernel + kernel).statements, [PUT, MOVE, PUT, MOVE])

    def test_barriers_of_both(self):
        first = Kernel(10, [PUT, MOVE, SUM], [2])
        second = Kernel(10, [SUM, PUT, MOVE, PUT], [1, 3])
        both = first + second
        self.assertIs(type(both), Kernel)
        self.assertEqual(both, Kernel(10, [PUT, MOVE, SUM, SUM, PUT, MOVE, PUT], [2, 3, 4, 6]))
        self.assertEqual(both.lanes, 10)
        self.assertEqual((first, second),
                         (Kernel(10, [PUT, MOVE, SUM], [2]), Kernel(10, [SUM, PUT, MOVE, PUT], [1, 3])))

    def test_without_statements_on_one_side_or_both(self):
        empty, kernel = Kernel(10, []), Kernel(10, [PUT, MOVE], [1])
        self.assertEqual(empty + kernel, kernel)
        self.assertEqual(kernel + empty, kernel)
        self.assertEqual(empty + empty, empty)

    def test_sums_of_sums(self):
        one = Kernel(10, [PUT])
        self.assertEqual((one + one + one).barriers, [1, 2])
        self.assertEqual(one + (one + one), (one + one) + one)

    def test_the_sum_keeps_nothing_of_the_parts(self):
        first = Kernel(10, [PUT], [])
        both = first + Kernel(10, [])
        both.statements.append(MOVE)
        self.assertEqual(first, Kernel(10, [PUT]))

    def test_unlike_lanes(self):
        for first, second in ((Kernel(10, [PUT]), Kernel(11, [PUT])), (Kernel(11, []), Kernel(10, [PUT])),
                              (Kernel(GREAT, []), Kernel(GREAT - 1, []))):
            self.refuses(UnlikeLanes, None, lambda: first + second)


class MirrorTest(KernelCase):
    @staticmethod
    def doings(kernel):
        """For each lane, what it does: the word, the cells, and the integer that is written or added."""
        lists = []
        for lane in range(kernel.lanes):
            rows = []
            for number, (word, guard, *rest) in enumerate(kernel.statements):
                low, high, step, remainder = guard
                if low <= lane < high and lane % step == remainder:
                    row, rest = [number, word], list(rest)
                    while len(rest) > 2:
                        name, a, b, *rest = rest
                        row.append((name, a * lane + b))
                    if word == "put":
                        row.append(rest[0] * lane + rest[1])
                    else:
                        row.extend(rest)
                    rows.append(row)
            lists.append(rows)
        return lists

    def test_example_of_the_document(self):
        kernel = Kernel(10, [("put", (0, 9, 2, 0), "x", 1, 0, 0, 7)])
        self.assertEqual(kernel.mirrored().statements, [("put", (1, 10, 2, 1), "x", -1, 9, 0, 7)])

    def test_each_word(self):
        self.assertEqual(Kernel(10, [BARE]).mirrored().statements,
                         [("put", (3, 9, 2, 0), "v", 3, -23, -5, 39)])
        self.assertEqual(Kernel(10, [FAR]).mirrored().statements,
                         [("move", (0, 8, 3, 1), "w", -2, 17, "v", 1, -2, -8)])
        self.assertEqual(Kernel(10, [SUM]).mirrored().statements,
                         [("sum", EVERY, "z", -1, 14, "x", -2, 19, "y", 1, 0)])

    def test_lane_by_lane(self):
        words = [("put", "x", 2, 1, -3, 5), ("move", "y", -1, 4, "x", 3, -2, 6),
                 ("sum", "z", 1, 0, "y", -2, 3, "x", 5, -7)]
        for lanes in range(1, 6):
            for low in range(lanes + 1):
                for high in range(low, lanes + 1):
                    for step in range(1, 5):
                        for rest in range(step):
                            statements = [(word, (low, high, step, rest), *items) for word, *items in words]
                            kernel = Kernel(lanes, statements, [2])
                            mirrored = kernel.mirrored()
                            self.assertEqual(self.doings(mirrored), self.doings(kernel)[::-1])
                            self.assertEqual((mirrored.lanes, mirrored.barriers), (lanes, [2]))
                            self.assertEqual(mirrored.mirrored(), kernel)

    def test_twice_is_the_kernel_and_the_kernel_stays(self):
        kernel = Kernel(10, [PUT, BARE, MOVE, FAR, SUM], [1, 4])
        self.assertNotEqual(kernel.mirrored(), kernel)
        self.assertEqual(kernel.mirrored().mirrored(), kernel)
        self.assertEqual(kernel, Kernel(10, [PUT, BARE, MOVE, FAR, SUM], [1, 4]))
        self.assertIs(type(kernel.mirrored()), Kernel)

    def test_without_statements(self):
        self.assertEqual(Kernel(3, []).mirrored(), Kernel(3, []))

    def test_great_kernel(self):
        put = ("put", (1, GREAT, 7, 3), "x", 2, 1, -1, 0)
        mirrored = Kernel(GREAT, [put]).mirrored()
        self.assertEqual(mirrored.statements,
                         [("put", (0, GREAT - 1, 7, (GREAT - 4) % 7), "x", -2, 2 * GREAT - 1, 1, 1 - GREAT)])
        self.assertEqual(mirrored.mirrored(), Kernel(GREAT, [put]))


class WithBarriersTest(KernelCase):
    def test_in_place_of_its_own(self):
        kernel = Kernel(10, [PUT, MOVE, SUM], [1])
        self.assertEqual(kernel.with_barriers([2]), Kernel(10, [PUT, MOVE, SUM], [2]))
        self.assertEqual(kernel.with_barriers((1, 2)).barriers, [1, 2])
        self.assertEqual(kernel.with_barriers(()).barriers, [])
        self.assertEqual(kernel.barriers, [1])

    def test_errors(self):
        kernel = Kernel(10, [PUT, MOVE, SUM], [1])
        self.refuses(InvalidBarrier, 0, kernel.with_barriers, [0])
        self.refuses(InvalidBarrier, 1, kernel.with_barriers, [1, 3])
        self.refuses(InvalidBarrier, 1, kernel.with_barriers, (2, 1))
        self.refuses(InvalidBarrier, 0, Kernel(10, []).with_barriers, [1])
        self.assertEqual(kernel, Kernel(10, [PUT, MOVE, SUM], [1]))


class KernelCheckTest(KernelCase):
    def no_statement(self, statement):
        with self.subTest(statement):
            self.refuses(InvalidStatement, 0, Kernel, 10, [statement])
            self.refuses(InvalidStatement, 2, Kernel, 10, [PUT, SUM, statement, MOVE])

    def test_lanes(self):
        for lanes in (0, -1, -GREAT):
            self.refuses(InvalidLanes, lanes, Kernel, lanes, [])
        self.assertEqual(Kernel(1, []).lanes, 1)

    def test_another_word(self):
        for word in ("", "Put", "add", "put ", "read", "x", "summ"):
            self.no_statement((word,) + PUT[1:])
        self.no_statement(("take",))

    def test_another_number_of_items(self):
        for statement in (PUT, MOVE, SUM):
            self.no_statement(statement[:-1])
            self.no_statement(statement + (1,))
            self.no_statement(statement[:1])
            self.no_statement(statement[:3])
        self.no_statement(("put",) + SUM[1:])
        self.no_statement(("sum",) + PUT[1:])
        self.no_statement(("move",) + SUM[1:])

    def test_no_name_of_an_array(self):
        for name in ("", "abcdefghi", "X", "aB", "x1", "1", "a b", " x", "x ", "x_", "-", "`", "{", "a{", "\u00e9"):
            self.no_statement(("put", EVERY, name, 2, 0, 1, 0))
            self.no_statement(("move", EVERY, name, 1, 0, "x", 3, 1, 0))
            self.no_statement(("move", EVERY, "y", 1, 0, name, 3, 1, 0))
            self.no_statement(("sum", EVERY, name, 1, 5, "x", 2, 1, "y", -1, 9))
            self.no_statement(("sum", EVERY, "z", 1, 5, name, 2, 1, "y", -1, 9))
            self.no_statement(("sum", EVERY, "z", 1, 5, "x", 2, 1, name, -1, 9))

    def test_names_of_arrays(self):
        for name in ("a", "z", "az", "abcdefgh", "zzzzzzzz", "put"):
            self.assertEqual(len(Kernel(10, [("sum", EVERY, name, 1, 5, name, 2, 1, name, -1, 9)])), 1)

    def test_no_guard(self):
        for guard in ((-1, 5, 1, 0), (5, 4, 1, 0), (0, 5, 0, 0), (0, 5, -2, 0), (0, 5, 2, -1), (0, 5, 2, 2)):
            for statement in (PUT, MOVE, SUM):
                self.no_statement((statement[0], guard) + statement[2:])

    def test_high_greater_than_the_lanes(self):
        for statement in (PUT, MOVE, SUM):
            for guard in ((0, 11, 1, 0), (11, 11, 1, 0), (0, GREAT, GREAT, 0)):
                self.no_statement((statement[0], guard) + statement[2:])
            self.assertEqual(len(Kernel(10, [(statement[0], (10, 10, 1, 0)) + statement[2:]])), 1)

    def test_barriers(self):
        four = [PUT, MOVE, SUM, PUT]
        cases = [([0], 0), ([-1], 0), ([-GREAT], 0), ([4], 0), ([5], 0), ([GREAT], 0), ([1, 1], 1), ([2, 1], 1),
                 ([1, 2, 2], 2), ([1, 3, 2], 2), ([1, 2, 4], 2), ([1, 0], 1), ([3, 4], 1)]
        for barriers, number in cases:
            with self.subTest(barriers):
                self.refuses(InvalidBarrier, number, Kernel, 10, four, barriers)
                self.refuses(InvalidBarrier, number, Kernel, 10, four, tuple(barriers))
        self.assertEqual(Kernel(10, four, [1, 2, 3]).barriers, [1, 2, 3])

    def test_barriers_of_few_statements(self):
        for statements in ([], [PUT]):
            for barrier in (0, 1, 2):
                self.refuses(InvalidBarrier, 0, Kernel, 10, statements, [barrier])

    def test_the_first_wrong_one(self):
        wrong = ("put", EVERY, "X", 1, 0, 0, 0)
        self.refuses(InvalidStatement, 1, Kernel, 10, [PUT, wrong, ("add",), wrong])
        self.refuses(InvalidStatement, 0, Kernel, 10, [("put", (0, 11, 1, 0), "x", 1, 0, 0, 0), wrong])
        self.refuses(InvalidBarrier, 0, Kernel, 10, [PUT, MOVE, SUM], [7, 0, 0])
        self.refuses(InvalidBarrier, 1, Kernel, 10, [PUT, MOVE, SUM], [2, 2, 9])

    def test_several_faults_at_once(self):
        wrong = ("put", (0, 5, 2, 2), "X", 1, 0, 0)
        self.refuses(InvalidLanes, 0, Kernel, 0, [wrong], [0])
        self.refuses(InvalidLanes, -3, Kernel, -3, [PUT], [5])
        self.refuses(InvalidLanes, 0, Kernel, 0, [], [5])
        self.refuses(InvalidStatement, 1, Kernel, 10, [PUT, wrong], [0])
        self.refuses(InvalidStatement, 0, Kernel, 9, [PUT, MOVE], [2, 1])


class AccessesTest(KernelCase):
    def test_example_of_the_document(self):
        kernel = Kernel(10, [PUT, MOVE])
        self.assertEqual(accesses(kernel), [(0, "write", "x", 2, 0), (1, "read", "x", 3, 1), (1, "write", "y", 1, 0)])
        self.assertEqual(phase_of(kernel + kernel, 3), 1)

    def test_each_word(self):
        self.assertEqual(accesses(Kernel(10, [BARE])), [(0, "write", "v", -3, 4)])
        self.assertEqual(accesses(Kernel(10, [FAR])), [(0, "read", "v", -1, 7), (0, "write", "w", 2, -1)])
        self.assertEqual(accesses(Kernel(10, [SUM])),
                         [(0, "read", "x", 2, 1), (0, "read", "y", -1, 9), (0, "write", "z", 1, 5)])

    def test_through_the_statements(self):
        kernel = Kernel(10, [SUM, PUT, MOVE, PUT], [2])
        found = accesses(kernel)
        self.assertEqual([(number, word) for number, word, *_ in found],
                         [(0, "read"), (0, "read"), (0, "write"), (1, "write"), (2, "read"), (2, "write"),
                          (3, "write")])
        self.assertEqual([access[2:] for access in found],
                         [("x", 2, 1), ("y", -1, 9), ("z", 1, 5), ("x", 2, 0), ("x", 3, 1), ("y", 1, 0), ("x", 2, 0)])
        self.assertIs(type(found), list)
        self.assertEqual({type(access) for access in found}, {tuple})
        self.assertEqual(kernel, Kernel(10, [SUM, PUT, MOVE, PUT], [2]))


class PhaseTest(KernelCase):
    def test_without_barriers(self):
        kernel = Kernel(10, [PUT, MOVE, SUM])
        self.assertEqual([phase_of(kernel, statement) for statement in range(3)], [0, 0, 0])

    def test_with_barriers(self):
        kernel = Kernel(10, [PUT, MOVE, SUM, PUT, MOVE, SUM], [1, 3, 4])
        self.assertEqual([phase_of(kernel, statement) for statement in range(6)], [0, 1, 1, 2, 3, 3])

    def test_no_such_statement(self):
        kernel = Kernel(10, [PUT, MOVE, SUM], [1])
        for statement in (-1, -3, 3, 4, GREAT, -GREAT):
            self.refuses(InvalidNumber, statement, phase_of, kernel, statement)
        self.refuses(InvalidNumber, 0, phase_of, Kernel(10, []), 0)


if __name__ == "__main__":
    unittest.main()
