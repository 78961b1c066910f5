"""Points 2 and 4: guards and their lanes."""

import unittest
from math import gcd, lcm

from stridelanes import guards
from stridelanes.errors import InvalidGuard, InvalidNumber
from stridelanes.guards import count_lanes, cut, first_lanes, has_lane, inverse, met, nth_lane

GREAT = 10 ** 30

NO_GUARDS = {
    "low is negative": (-1, 5, 2, 0),
    "low and high are negative": (-5, -1, 2, 0),
    "high is less than low": (5, 4, 2, 0),
    "step is 0": (0, 5, 0, 0),
    "step is negative": (0, 5, -1, 0),
    "step is negative, rest between": (0, 5, -3, -1),
    "rest is negative": (0, 5, 2, -1),
    "rest is step": (0, 5, 2, 2),
    "rest is greater than step": (0, 5, 2, 7),
    "great ones": (GREAT, GREAT - 1, 1, 0),
}


def small_guards(most, steps):
    return [(low, high, step, rest) for low in range(most + 1) for high in range(low, most + 1)
            for step in range(1, steps + 1) for rest in range(step)]


def lanes_one_by_one(guard):
    low, high, step, rest = guard
    return [lane for lane in range(low, high) if lane % step == rest]


class GuardCase(unittest.TestCase):
    def refuses(self, error, value, call, *arguments, **named):
        with self.assertRaises(error) as caught:
            call(*arguments, **named)
        self.assertIs(type(caught.exception), error)
        self.assertEqual(caught.exception.value, value)


class LanesTest(GuardCase):
    def test_examples_of_the_document(self):
        both = met((0, 100, 6, 4), (10, 90, 4, 2))
        self.assertEqual(both, (10, 90, 12, 10))
        self.assertEqual(count_lanes(both), 7)
        self.assertEqual(nth_lane(both, 6), 82)
        self.assertIsNone(met((0, 9, 2, 0), (0, 9, 4, 1)))
        self.assertEqual(count_lanes((3, GREAT, 7, 3)), 142857142857142857142857142857)

    def test_functions_are_defined_in_this_file(self):
        for name in ("count_lanes", "nth_lane", "has_lane", "met"):
            self.assertEqual(getattr(guards, name).__module__, "stridelanes.guards")

    def test_small_guards_against_lanes_one_by_one(self):
        for guard in small_guards(9, 6):
            lanes = lanes_one_by_one(guard)
            with self.subTest(guard):
                self.assertEqual(count_lanes(guard), len(lanes))
                self.assertEqual([nth_lane(guard, number) for number in range(len(lanes))], lanes)
                self.assertEqual([lane for lane in range(-7, 20) if has_lane(guard, lane)], lanes)

    def test_guards_without_lanes(self):
        for guard in ((0, 0, 1, 0), (5, 5, 1, 0), (5, 6, 7, 4), (1, 7, 9, 8), (GREAT, GREAT, GREAT, 0)):
            with self.subTest(guard):
                self.assertEqual(count_lanes(guard), 0)
                self.refuses(InvalidNumber, 0, nth_lane, guard, 0)
                self.assertIs(has_lane(guard, guard[0]), False)
                self.assertIsNone(met(guard, (0, 2 * GREAT, 1, 0)))
                self.assertIsNone(met((0, 2 * GREAT, 1, 0), guard))
                self.assertIsNone(met(guard, guard))

    def test_has_lane_returns_true_or_false(self):
        self.assertIs(has_lane((2, 10, 3, 2), 2), True)
        self.assertIs(has_lane((2, 10, 3, 2), 8), True)
        self.assertIs(has_lane((2, 10, 3, 2), 11), False)
        self.assertIs(has_lane((2, 11, 3, 2), 11), False)
        self.assertIs(has_lane((3, 10, 3, 2), 2), False)
        self.assertIs(has_lane((0, 10, 3, 2), -1), False)
        self.assertIs(has_lane((0, 10, 3, 2), 4), False)

    def test_great_guards(self):
        guard = (3, GREAT, 10 ** 15, 7)
        self.assertEqual(count_lanes(guard), 10 ** 15)
        self.assertEqual(nth_lane(guard, 0), 7)
        self.assertEqual(nth_lane(guard, 10 ** 15 - 1), GREAT - 10 ** 15 + 7)
        self.refuses(InvalidNumber, 10 ** 15, nth_lane, guard, 10 ** 15)
        self.assertIs(has_lane(guard, GREAT - 10 ** 15 + 7), True)
        self.assertIs(has_lane(guard, GREAT + 7), False)
        self.assertIs(has_lane(guard, 8), False)
        self.assertEqual(count_lanes((0, GREAT, 1, 0)), GREAT)
        self.assertEqual(nth_lane((0, GREAT, 1, 0), GREAT - 1), GREAT - 1)
        self.assertEqual(count_lanes((0, GREAT, GREAT, GREAT - 1)), 1)
        self.assertEqual(count_lanes((0, GREAT - 1, GREAT, GREAT - 1)), 0)
        self.assertEqual(nth_lane((0, 10 ** 60, 3, 1), 10 ** 59), 3 * 10 ** 59 + 1)

    def test_nth_lane_refuses_numbers_that_no_lane_has(self):
        for number in (-1, -2, -GREAT, 4, 5, GREAT):
            self.refuses(InvalidNumber, number, nth_lane, (1, 12, 3, 2), number)
        self.assertEqual(nth_lane((1, 12, 3, 2), 3), 11)

    def test_guard_check(self):
        for name, guard in NO_GUARDS.items():
            with self.subTest(name):
                self.refuses(InvalidGuard, guard, count_lanes, guard)
                self.refuses(InvalidGuard, guard, has_lane, guard, 0)
                self.refuses(InvalidGuard, guard, nth_lane, guard, 0)

    def test_guard_check_is_ahead_of_the_number(self):
        self.refuses(InvalidGuard, (0, 5, 2, 2), nth_lane, (0, 5, 2, 2), -1)
        self.refuses(InvalidGuard, (6, 5, 2, 1), nth_lane, (6, 5, 2, 1), 99)

    def test_the_edges_of_the_guard_check_are_guards(self):
        for guard in ((0, 0, 1, 0), (4, 4, 1, 0), (0, 1, 1, 0), (0, 5, 3, 2), (0, 5, GREAT, GREAT - 1)):
            self.assertEqual(count_lanes(guard), len(lanes_one_by_one(guard)))

    def test_arguments_by_name(self):
        self.assertEqual(count_lanes(guard=(0, 9, 2, 1)), 4)
        self.assertEqual(nth_lane(number=3, guard=(0, 9, 2, 1)), 7)
        self.assertIs(has_lane(lane=7, guard=(0, 9, 2, 1)), True)
        self.assertEqual(met(other=(3, 8, 3, 0), guard=(0, 9, 2, 1)), (3, 8, 6, 3))
        self.refuses(InvalidGuard, (0, 1, 0, 0), met, other=(0, 2, 0, 0), guard=(0, 1, 0, 0))


class InverseTest(unittest.TestCase):
    def test_against_the_definition(self):
        for modulus in range(1, 30):
            for number in range(-40, 40):
                if gcd(number, modulus) == 1:
                    found = inverse(number, modulus)
                    self.assertTrue(0 <= found < modulus)
                    self.assertEqual(number * found % modulus, 1 % modulus)


class CutTest(GuardCase):
    def test_small_guards_against_lanes_one_by_one(self):
        for guard in small_guards(7, 4):
            lanes = lanes_one_by_one(guard)
            for low in range(-2, 10):
                for high in range(-2, 10):
                    part = cut(guard, low, high)
                    self.assertEqual(lanes_one_by_one(part), [lane for lane in lanes if low <= lane < high])
                    self.assertEqual(count_lanes(part), len(lanes_one_by_one(part)))
            for many in range(len(lanes) + 3):
                self.assertEqual(lanes_one_by_one(first_lanes(guard, many)), lanes[:many])

    def test_great_guards(self):
        guard = (3, GREAT, 10 ** 15, 7)
        self.assertEqual(count_lanes(first_lanes(guard, 10 ** 14)), 10 ** 14)
        self.assertEqual(nth_lane(cut(guard, 10 ** 20, GREAT), 0), 10 ** 20 + 7)


class MetTest(GuardCase):
    def test_small_guards_against_lanes_one_by_one(self):
        all_guards = [(guard, lanes_one_by_one(guard)) for guard in small_guards(7, 4)]
        for one, lanes in all_guards:
            for other, other_lanes in all_guards:
                common = [lane for lane in lanes if lane in other_lanes]
                expected = None
                if common:
                    step = lcm(one[2], other[2])
                    expected = (max(one[0], other[0]), min(one[1], other[1]), step, common[0] % step)
                self.assertEqual(met(one, other), expected, (one, other))

    def test_greater_steps_against_lanes_one_by_one(self):
        for step in range(1, 13):
            for other_step in range(1, 13):
                for rest in range(step):
                    one, other = (5, 170, step, rest), (0, 160, other_step, other_step - 1)
                    common = [lane for lane in range(5, 160)
                              if lane % step == rest and lane % other_step == other_step - 1]
                    both = met(one, other)
                    if not common:
                        self.assertIsNone(both)
                    else:
                        both_steps = lcm(step, other_step)
                        self.assertEqual(both, (5, 160, both_steps, common[0] % both_steps))
                        self.assertEqual(lanes_one_by_one(both), common)

    def test_step_is_the_least_common_multiple(self):
        self.assertEqual(met((0, 1000, 12, 10), (0, 1000, 18, 4)), (0, 1000, 36, 22))
        self.assertEqual(met((0, 1000, 7, 3), (0, 1000, 11, 5)), (0, 1000, 77, 38))
        self.assertEqual(met((0, 1000, 6, 1), (0, 1000, 6, 1)), (0, 1000, 6, 1))
        self.assertEqual(met((0, 1000, 6, 1), (0, 1000, 3, 1)), (0, 1000, 6, 1))
        self.assertEqual(met((0, 1000, 3, 1), (0, 1000, 6, 4)), (0, 1000, 6, 4))
        self.assertEqual(met((0, 1000, 1, 0), (0, 1000, 6, 4)), (0, 1000, 6, 4))

    def test_greater_low_and_lesser_high(self):
        self.assertEqual(met((2, 30, 1, 0), (5, 20, 1, 0)), (5, 20, 1, 0))
        self.assertEqual(met((2, 20, 1, 0), (5, 30, 1, 0)), (5, 20, 1, 0))
        self.assertEqual(met((5, 30, 1, 0), (2, 20, 1, 0)), (5, 20, 1, 0))

    def test_remainders_that_do_not_go_together(self):
        self.assertIsNone(met((0, 1000, 12, 10), (0, 1000, 18, 5)))
        self.assertIsNone(met((0, GREAT, 10 ** 20, 1), (0, GREAT, 10 ** 10, 2)))

    def test_common_interval_without_common_lanes(self):
        self.assertIsNone(met((0, 38, 7, 3), (0, 1000, 11, 5)))
        self.assertEqual(met((0, 39, 7, 3), (0, 1000, 11, 5)), (0, 39, 77, 38))
        self.assertIsNone(met((39, 115, 7, 3), (0, 1000, 11, 5)))
        self.assertEqual(met((39, 116, 7, 3), (0, 1000, 11, 5)), (39, 116, 77, 38))

    def test_intervals_apart(self):
        self.assertIsNone(met((0, 10, 1, 0), (10, 20, 1, 0)))
        self.assertIsNone(met((10, 20, 1, 0), (0, 10, 1, 0)))
        self.assertIsNone(met((0, 10, 1, 0), (15, 20, 1, 0)))

    def test_great_guards(self):
        one, other = 10 ** 30 - 1, 10 ** 30
        both = met((0, 10 ** 70, one, 5), (1, 10 ** 71, other, 8))
        self.assertEqual(both[:3], (1, 10 ** 70, one * other))
        self.assertEqual((both[3] % one, both[3] % other), (5, 8))
        self.assertTrue(0 <= both[3] < one * other)
        self.assertIsNone(met((0, GREAT, one, 5), (0, GREAT, other, 8)))
        self.assertEqual(met((0, GREAT, one, 5), (0, GREAT, other, 5)), (0, GREAT, one * other, 5))
        many = met((0, GREAT, 6, 4), (0, GREAT, 4, 2))
        self.assertEqual(many, (0, GREAT, 12, 10))
        self.assertEqual(count_lanes(many), (GREAT - 10 + 11) // 12)

    def test_what_is_returned_may_be_passed_on(self):
        both = met((0, 1000, 4, 3), (1, 900, 6, 5))
        self.assertEqual(both, (1, 900, 12, 11))
        self.assertEqual(met(both, (0, 800, 5, 0)), (1, 800, 60, 35))

    def test_guard_check_of_the_first_then_of_the_second(self):
        right = (0, 9, 2, 1)
        for name, guard in NO_GUARDS.items():
            with self.subTest(name):
                self.refuses(InvalidGuard, guard, met, guard, right)
                self.refuses(InvalidGuard, guard, met, right, guard)
                self.refuses(InvalidGuard, guard, met, guard, (0, 7, 0, 7))
                self.refuses(InvalidGuard, (0, 7, 0, 7), met, (0, 7, 0, 7), guard)
                self.refuses(InvalidGuard, guard, met, (4, 4, 1, 0), guard)


if __name__ == "__main__":
    unittest.main()
