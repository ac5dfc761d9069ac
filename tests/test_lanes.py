"""Section 4, with the points [5] to [9] as far as they tell of lanes and calls."""

import unittest
from itertools import islice

from deadlane.lanes import (
    after_calls, are_calls, called, case_of, fixed_part, is_lane, lanes_from, leaving,
)
from tests.samples import (
    CALLS, all_calls, all_lanes, long_calls, slow_call, slow_day, wrong_calls, wrong_lanes,
)

FULL = tuple(range(60))


class Examples(unittest.TestCase):
    def test_is_lane_and_are_calls(self):
        told = [is_lane((3, 0)), is_lane((3, 3)), is_lane(()), are_calls((3, 3)), are_calls(())]
        self.assertEqual(told, [True, False, True, True, False])

    def test_called_and_leaving(self):
        told = [called((0, 1), 2), called((0, 1, 2), 1), leaving((0, 1, 2), 1), leaving((0,), 5)]
        self.assertEqual(told, [(0, 1, 2), (0,), (1, 2), ()])

    def test_after_calls(self):
        self.assertEqual([after_calls((), CALLS), after_calls((7, 2, 0), CALLS)], [(0,), (7, 1)])

    def test_lanes_from(self):
        told = [lane for turn, lane in zip(range(6), lanes_from((), CALLS))]
        self.assertEqual(told, [(), (0,), (0, 1), (0, 1, 2), (0,), ()])

    def test_fixed_part_and_case_of(self):
        told = [fixed_part((7, 2, 5, 0), CALLS), case_of((7, 2, 5, 0), CALLS), case_of((7, 8), CALLS)]
        self.assertEqual(told, [(7,), 2, None])

    def test_the_table_of_two_days(self):
        told = list(islice(lanes_from((), CALLS), 9))
        first = [(), (0,), (0, 1), (0, 1, 2), (0,)]
        second = [(), (1,), (1, 2), ()]
        self.assertEqual(told, first + second)
        self.assertEqual([called((), 0), called((0,), 1), called((0, 1), 2), called((0, 1, 2), 1)], first[1:])
        self.assertEqual([called((0,), 0), called((), 1), called((1,), 2), called((1, 2), 1)], second)


class Whole(int):
    """An int of a class of its own, which is no bool either."""


class IsLaneAndAreCalls(unittest.TestCase):
    def test_lanes(self):
        for lane in [(), (0,), (59,), (59, 0), (3, 1, 2), FULL, FULL[::-1]]:
            with self.subTest(lane=lane):
                self.assertIs(is_lane(lane), True)

    def test_no_lanes(self):
        for at, value in enumerate(wrong_lanes()):
            with self.subTest(at=at):
                self.assertIs(is_lane(value), False)

    def test_61_cars_are_no_lane(self):
        self.assertIs(is_lane(FULL), True)
        self.assertIs(is_lane((*FULL, 60)), False)
        self.assertIs(is_lane((*FULL, 0)), False)

    def test_calls(self):
        for calls in [(0,), (59,), (0, 0), (3, 1, 3), (7,) * 200, FULL, (FULL * 4)[:200]]:
            with self.subTest(calls=calls):
                self.assertIs(are_calls(calls), True)

    def test_no_calls(self):
        for at, value in enumerate(wrong_calls()):
            with self.subTest(at=at):
                self.assertIs(are_calls(value), False)

    def test_every_int_but_a_bool_is_an_integer(self):
        for at in [0, 1, 59]:
            self.assertEqual([is_lane((Whole(at), 2)), are_calls((2, Whole(at), 2))], [True, True])
            self.assertEqual(called((7, Whole(at)), Whole(at)), (7,))
        for at in [-1, 60]:
            self.assertEqual([is_lane((Whole(at), 2)), are_calls((2, Whole(at), 2))], [False, False])
        self.assertIs(is_lane((2, Whole(2))), False)

    def test_0_and_201_cars_are_no_calls(self):
        self.assertEqual([are_calls((4,) * size) for size in [0, 1, 200, 201]], [False, True, True, False])


class CalledAndLeaving(unittest.TestCase):
    def test_a_car_that_is_not_in_the_lane_comes_to_the_end(self):
        for lane in all_lanes(range(4)):
            for car in [0, 1, 2, 3, 59]:
                if car not in lane:
                    self.assertEqual(called(lane, car), (*lane, car))
                    self.assertEqual(leaving(lane, car), ())

    def test_a_car_that_is_in_the_lane_leaves_with_all_behind_it(self):
        for lane in all_lanes(range(4)):
            for at, car in enumerate(lane):
                self.assertEqual(called(lane, car), lane[:at])
                self.assertEqual(leaving(lane, car), lane[at:])

    def test_the_full_lane(self):
        self.assertEqual(called(FULL, 59), FULL[:59])
        self.assertEqual(called(FULL, 0), ())
        self.assertEqual(called(FULL[:59], 59), FULL)
        self.assertEqual(leaving(FULL, 0), FULL)
        self.assertEqual(leaving(FULL, 59), (59,))
        self.assertEqual(leaving((), 59), ())


class AfterCalls(unittest.TestCase):
    def test_it_is_one_call_after_the_other(self):
        for calls in all_calls(3, 4):
            for lane in all_lanes(range(4)):
                self.assertEqual(after_calls(lane, calls), slow_day(lane, calls))

    def test_long_calls(self):
        for calls in long_calls():
            for lane in [(), (0,), (59, 0), FULL, FULL[::-1], FULL[30:]]:
                self.assertEqual(after_calls(lane, calls), slow_day(lane, calls))

    def test_60_calls_fill_the_lane(self):
        self.assertEqual(after_calls((), FULL), FULL)
        self.assertEqual(after_calls(FULL, FULL), FULL[1:])

    def test_200_calls_of_one_car(self):
        self.assertEqual(after_calls((), (59,) * 200), ())
        self.assertEqual(after_calls((), (59,) * 199), (59,))


class LanesFrom(unittest.TestCase):
    def test_each_lane_follows_by_one_call(self):
        for calls in all_calls(3, 3):
            for lane in [(), (2,), (5, 1), (1, 5, 2)]:
                lanes = list(islice(lanes_from(lane, calls), 30))
                self.assertEqual(lanes[0], lane)
                for at in range(29):
                    self.assertEqual(lanes[at + 1], slow_call(lanes[at], calls[at % len(calls)]))

    def test_it_goes_on(self):
        lanes = islice(lanes_from((3,), (0,)), 10000, 10003)
        self.assertEqual(list(lanes), [(3,), (3, 0), (3,)])

    def test_its_errors_come_with_the_first_item(self):
        for wrong in [((3, 3), CALLS), ([], CALLS), ((), ()), ((), [0]), (None, None)]:
            lanes = lanes_from(*wrong)
            with self.assertRaises(ValueError):
                next(lanes)

    def test_two_of_them_do_not_disturb_each_other(self):
        one, two = lanes_from((), CALLS), lanes_from((), CALLS)
        self.assertEqual([next(one), next(one), next(one), next(two), next(two)], [(), (0,), (0, 1), (), (0,)])


class FixedPartAndCaseOf(unittest.TestCase):
    def test_parts_and_cases(self):
        table = [
            ((), (), None), ((0,), (), 0), ((2, 0), (), 2), ((7,), (7,), None), ((7, 59), (7, 59), None),
            ((7, 2), (7,), 2), ((7, 8, 1, 9), (7, 8), 1), ((1, 7), (), 1), ((1, 7, 2), (), 1),
        ]
        for lane, fixed, case in table:
            with self.subTest(lane=lane):
                self.assertEqual(fixed_part(lane, CALLS), fixed)
                self.assertEqual(case_of(lane, CALLS), case)

    def test_car_0_is_a_case_and_a_fixed_car(self):
        self.assertEqual([fixed_part((0, 5), (0,)), case_of((0, 5), (0,))], [(), 0])
        self.assertEqual([fixed_part((0, 5), (5,)), case_of((0, 5), (5,))], [(0,), 5])

    def test_the_full_lane(self):
        self.assertEqual(fixed_part(FULL, (59,) * 200), FULL[:59])
        self.assertEqual(case_of(FULL, (59,) * 200), 59)
        self.assertEqual(case_of(FULL, FULL), 0)

    def test_the_fixed_part_stays_and_the_rest_is_a_lane_of_its_own(self):
        for calls in all_calls(2, 4):
            for lane in all_lanes([0, 1, 7, 8]):
                fixed = fixed_part(lane, calls)
                rest = lane[len(fixed):]
                self.assertEqual(fixed + rest, lane)
                self.assertFalse([car for car in fixed if car in calls])
                self.assertEqual(case_of(lane, calls), rest[0] if rest else None)
                self.assertTrue(not rest or rest[0] in calls)
                alone = islice(lanes_from(rest, calls), 12)
                for whole, part in zip(lanes_from(lane, calls), alone):
                    self.assertEqual(whole, fixed + part)


if __name__ == "__main__":
    unittest.main()
