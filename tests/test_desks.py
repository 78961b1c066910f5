"""Points 2, 3, 6, 8 and 10: desks."""

import random

from plain import Case, FEW, GREAT, MANY, a_statement, races, small_kernels, pairs_of_accesses
from stridelanes import desks
from stridelanes.desks import Desk
from stridelanes.errors import (InvalidBarrier, InvalidLanes, InvalidNumber, InvalidStatement, NothingToUndo,
                                StrideError, Unreadable)
from stridelanes.kernels import Kernel
from stridelanes.races import total_races
from stridelanes.texts import show_kernel

PUT = ("put", FEW, "x", 2, 0, 1, 0)
MOVE = ("move", FEW, "y", 1, 0, "x", 3, 1, 0)
SUM = ("sum", FEW, "x", 1, 5, "x", 2, 1, "y", -1, 9)
WRONG = [("get", FEW, "x", 1, 0, 0, 0), ("put", FEW, "x", 1, 0, 0), ("put", FEW, "x", 1, 0, 0, 0, 0),
         ("put", FEW, "X", 1, 0, 0, 0), ("put", FEW, "", 1, 0, 0, 0), ("put", FEW, "abcdefghi", 1, 0, 0, 0),
         ("put", (0, 11, 1, 0), "x", 1, 0, 0, 0), ("put", (3, 2, 1, 0), "x", 1, 0, 0, 0),
         ("put", (0, 10, 1, 1), "x", 1, 0, 0, 0), ("move", FEW, "x", 1, 0, "Y", 1, 0, 0), ("move",), ("put",)]


def desk_with(statements, barriers=(), lanes=10):
    desk = Desk(lanes)
    for statement in statements:
        desk.add(statement)
    for barrier in barriers:
        desk.put_barrier(barrier)
    return desk


def taken(statements, barriers, number):
    """The statements and barriers that are left, by what the document says of each barrier."""
    moved = [barrier - (barrier > number) for barrier in barriers]
    left = statements[:number] + statements[number + 1:]
    return left, sorted({barrier for barrier in moved if barrier != 0 and barrier < len(left)})


class DeskTest(Case):
    def test_example_of_the_document(self):
        desk = Desk(10)
        self.assertEqual([desk.add(PUT), desk.add(MOVE), desk.put_barrier(1), desk.take(0)],
                         [(0, 0), (0, 3), (3, 0), (0, 0)])
        self.assertEqual([desk.kernel.barriers, len(desk.kernel)], [[], 1])

    def test_defined_in_this_file(self):
        self.defined_in(desks, "Desk")
        self.assertIsInstance(vars(Desk)["kernel"], property)
        self.assertIsInstance(vars(Desk)["of_text"], classmethod)
        for name in ("__init__", "__eq__", "add", "put_barrier", "take", "undo"):
            self.assertIn(name, vars(Desk))

    def test_a_new_desk(self):
        self.assertEqual(Desk(7).kernel, Kernel(7, []))
        self.refuses(NothingToUndo, 0, Desk(7).undo)

    def a_call(self, chance, desk, statements):
        """A method of a desk, its argument, and the error that the document requires, as far as it depends on them."""
        lanes, many = desk.kernel.lanes, len(statements)
        way = chance.random()
        if way < 0.4 and many < 12:
            return desk.add, a_statement(chance, lanes, 1, 1)
        if way < 0.7:
            return desk.put_barrier, chance.randint(-1, many + 1)
        return desk.take, chance.randint(-1, many) if chance.random() < 0.6 else chance.randint(0, max(0, many - 1))

    def expected(self, call, argument, statements, barriers):
        """The error and the statements and barriers behind a call."""
        name = call.__name__
        if name == "add":
            return None, statements + [argument], barriers
        if name == "put_barrier":
            if argument < 1 or argument >= len(statements) or argument in barriers:
                return InvalidBarrier, statements, barriers
            return None, statements, sorted(barriers + [argument])
        if not 0 <= argument < len(statements):
            return InvalidNumber, statements, barriers
        return None, *taken(statements, barriers, argument)

    def test_long_drawn_sequences(self):
        chance, refused = random.Random(121), {None: 0, InvalidBarrier: 0, InvalidNumber: 0, InvalidStatement: 0}
        for _ in range(60):
            desk = Desk(chance.randint(1, 9))
            past, statements, barriers = [], [], []
            for _ in range(80):
                self.assertEqual(desk.kernel, Kernel(desk.kernel.lanes, statements, barriers))
                if past and chance.random() < 0.15:
                    self.assertIsNone(desk.undo())
                    statements, barriers = past.pop()
                    continue
                if chance.random() < 0.05:
                    wrong = ("put", (0, desk.kernel.lanes + 1, 1, 0), "x", 0, 0, 0, 0)
                    self.refuses(InvalidStatement, len(statements), desk.add, wrong)
                    refused[InvalidStatement] += 1
                    continue
                call, argument = self.a_call(chance, desk, statements)
                error, *after = self.expected(call, argument, statements, barriers)
                refused[error] += 1
                if error is not None:
                    self.refuses(error, argument, call, argument)
                    continue
                before = total_races(desk.kernel)
                self.assertEqual(call(argument), (before, total_races(Kernel(desk.kernel.lanes, *after))))
                past.append((statements, barriers))
                statements, barriers = after
            while past:
                self.assertIsNone(desk.undo())
                statements, barriers = past.pop()
                self.assertEqual(desk.kernel, Kernel(desk.kernel.lanes, statements, barriers))
            self.assertEqual(desk.kernel, Kernel(desk.kernel.lanes, []))
            self.refuses(NothingToUndo, 0, desk.undo)
        self.assertTrue(min(refused.values()) > 100, refused)

    def test_numbers_of_races_lane_by_lane(self):
        desk, before = Desk(6), 0
        chance = random.Random(122)
        for number in range(10):
            found = desk.add(a_statement(chance, 6, 1, 1))
            kernel = desk.kernel
            after = sum(len(races(kernel, e, f, 1)) for e, f in pairs_of_accesses(kernel))
            self.assertEqual(found, (before, after))
            self.assertIs(type(found), tuple)
            before = after
        self.assertGreater(before, 10)

    def test_barriers_when_a_statement_is_taken(self):
        statements = [("put", FEW, "x", 1, number, 0, 0) for number in range(5)]
        cases = [([1, 2, 3, 4], 0, [1, 2, 3]), ([1, 2, 3, 4], 1, [1, 2, 3]), ([1, 2, 3, 4], 4, [1, 2, 3]),
                 ([1], 0, []), ([1, 3], 0, [2]), ([4], 4, []), ([4], 3, [3]), ([4], 2, [3]), ([3, 4], 4, [3]),
                 ([3, 4], 3, [3]), ([2, 3], 2, [2]), ([2], 2, [2]), ([2], 1, [1]), ([2], 3, [2]), ([], 2, []),
                 ([1, 4], 0, [3]), ([1, 4], 4, [1]), ([1, 4], 2, [1, 3])]
        for barriers, number, left in cases:
            desk = desk_with(statements, barriers)
            desk.take(number)
            self.assertEqual(desk.kernel, Kernel(10, statements[:number] + statements[number + 1:], left))
            self.assertEqual(taken(statements, barriers, number)[1], left)
            desk.undo()
            self.assertEqual(desk.kernel, Kernel(10, statements, barriers))
        desk = desk_with([PUT, MOVE], [1])
        desk.take(1)
        self.assertEqual(desk.kernel, Kernel(10, [PUT]))
        desk.take(0)
        self.assertEqual(desk.kernel, Kernel(10, []))

    def test_a_refused_call_changes_nothing_and_is_not_undone(self):
        desk = desk_with([PUT, MOVE, SUM], [2])
        kernel = desk.kernel
        for call, argument in ((desk.add, WRONG[0]), (desk.put_barrier, 2), (desk.put_barrier, 0), (desk.take, 3),
                               (desk.take, -1)):
            with self.assertRaises(StrideError):
                call(argument)
            self.assertEqual(desk.kernel, kernel)
        desk.undo()
        self.assertEqual(desk.kernel, Kernel(10, [PUT, MOVE, SUM]))
        self.assertEqual(desk.put_barrier(1)[0], total_races(Kernel(10, [PUT, MOVE, SUM])))

    def test_a_call_behind_an_undone_one(self):
        desk = desk_with([PUT, MOVE], [1])
        desk.undo()
        desk.undo()
        self.assertEqual(desk.add(SUM), (0, total_races(Kernel(10, [PUT, SUM]))))
        desk.undo()
        self.assertEqual(desk.kernel, Kernel(10, [PUT]))
        desk.undo()
        self.refuses(NothingToUndo, 0, desk.undo)
        self.refuses(NothingToUndo, 0, desk.undo)

    def test_great_numbers(self):
        desk = Desk(GREAT)
        self.assertEqual(desk.add(("put", MANY, "x", 2, 0, 1, 0)), (0, 0))
        self.assertEqual(desk.add(("move", MANY, "y", 1, 0, "x", 3, 1, 0)), (0, GREAT // 3))
        self.assertEqual(desk.put_barrier(1), (GREAT // 3, 0))
        for place in (GREAT, -GREAT):
            self.refuses(InvalidBarrier, place, desk.put_barrier, place)
            self.refuses(InvalidNumber, place, desk.take, place)

    def test_what_a_desk_returns_stays(self):
        desk = desk_with([PUT])
        kernel = desk.kernel
        kernel.statements.clear()
        desk.add(MOVE)
        self.assertEqual(kernel, Kernel(10, [PUT]))
        desk.put_barrier(1)
        desk.kernel.barriers.clear()
        self.assertEqual(desk.kernel, Kernel(10, [PUT, MOVE], [1]))

    def test_two_desks_do_not_know_each_other(self):
        one, other = Desk(10), Desk(10)
        one.add(PUT)
        self.assertEqual(len(other.kernel), 0)
        self.refuses(NothingToUndo, 0, other.undo)

    def test_arguments_by_name(self):
        desk = Desk(lanes=10)
        self.assertEqual([desk.add(statement=PUT), desk.add(statement=MOVE)], [(0, 0), (0, 3)])
        self.assertEqual([desk.put_barrier(place=1), desk.take(number=0)], [(3, 0), (0, 0)])
        self.assertEqual(Desk.of_text(text="lanes 3"), Desk(3))
        self.refuses(InvalidLanes, 0, Desk, lanes=0)


class EqualityTest(Case):
    def test_equal_desks(self):
        one, other = desk_with([PUT, MOVE], [1]), desk_with([PUT, SUM])
        self.assertFalse(one == other)
        self.assertTrue(one != other)
        other.take(1)
        other.add(MOVE)
        other.put_barrier(1)
        self.assertTrue(one == other)
        self.assertFalse(one != other)
        self.assertTrue(Desk(3) == Desk(3))
        self.assertFalse(Desk(3) == Desk(4))
        self.assertEqual(Desk.of_text(show_kernel(one.kernel)), one)

    def test_not_equal_to_anything_else(self):
        class Like:
            kernel = Kernel(10, [])

            def __eq__(self, other):
                return True

        for other in (Kernel(10, []), None, "lanes 10", [], (10, [], []), 10, {}, object(), Desk, Like()):
            self.assertFalse(Desk(10) == other)
            self.assertTrue(Desk(10) != other)
        self.assertFalse(Kernel(10, []) == Desk(10))


class TextTest(Case):
    def test_desks_of_texts(self):
        for kernel in small_kernels(123, 100):
            desk = Desk.of_text(show_kernel(kernel))
            self.assertIs(type(desk), Desk)
            self.assertEqual(desk.kernel, kernel)
            self.refuses(NothingToUndo, 0, desk.undo)
            put = ("put", (0, kernel.lanes, 1, 0), "x", 0, 1, 0, 0)
            before = total_races(kernel)
            self.assertEqual(desk.add(put),
                             (before, total_races(Kernel(kernel.lanes, kernel.statements + [put], kernel.barriers))))
            desk.undo()
            self.assertEqual(desk.kernel, kernel)
            self.refuses(NothingToUndo, 0, desk.undo)

    def test_unreadable_texts(self):
        for text in ("", "lanes 0", "lanes 10; barrier", "lanes 10; put 0:11:1:0 x 1 0 0 0", "lanes 3 ", "lanes 03"):
            self.refuses(Unreadable, text, Desk.of_text, text)


class ErrorsTest(Case):
    def test_numbers_of_lanes(self):
        for lanes in (0, -1, -GREAT):
            self.refuses(InvalidLanes, lanes, Desk, lanes)
        for lanes in (1, GREAT):
            self.assertEqual(Desk(lanes).kernel.lanes, lanes)

    def test_wrong_statements(self):
        desk = Desk(10)
        for number, statement in enumerate((PUT, MOVE, SUM)):
            for wrong in WRONG:
                self.refuses(InvalidStatement, number, desk.add, wrong)
            desk.add(statement)
        self.assertEqual(desk, desk_with([PUT, MOVE, SUM]))

    def test_wrong_barriers(self):
        for statements, barriers, wrong in (([], [], (0, 1, -1)), ([PUT], [], (0, 1, 2)),
                                            ([PUT, MOVE, SUM], [1], (-1, 0, 1, 3, 4, GREAT))):
            desk = desk_with(statements, barriers)
            for place in wrong:
                self.refuses(InvalidBarrier, place, desk.put_barrier, place)
            self.assertEqual(desk.kernel, Kernel(10, statements, barriers))

    def test_wrong_numbers(self):
        for statements, wrong in (([], (0, -1, 1)), ([PUT], (1, -1)), ([PUT, MOVE, SUM], (3, 4, -1, -3))):
            desk = desk_with(statements)
            for number in wrong:
                self.refuses(InvalidNumber, number, desk.take, number)
            self.assertEqual(desk.kernel, Kernel(10, statements))
