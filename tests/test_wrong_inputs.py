"""The errors of each function: their classes, their order, and that they leave everything as it was."""

import copy
import unittest
from itertools import product

from deadlane.days import after_days, count_before, cycles_of, day_before, day_map, end_lane, period
from deadlane.errors import LaneError, NoCalls, NoCar, NoCase, NoDays, NoLane, NotEnd
from deadlane.lanes import after_calls, called, case_of, fixed_part, lanes_from, leaving
from tests.samples import (
    CALLS, wrong_calls, wrong_cars, wrong_cases, wrong_days, wrong_ends, wrong_lanes,
)


def first_lane(lane, calls):
    return next(lanes_from(lane, calls))


def after_so_many(lane, calls, days):
    return after_days(lane, calls, days=days)


# For each parameter: a right value, its wrong ones, the error.
LANE = ((2, 1), wrong_lanes, NoLane)
CAR = (1, wrong_cars, NoCar)
GOOD_CALLS = (CALLS, wrong_calls, NoCalls)
CASE = (1, wrong_cases, NoCase)
DAYS = (3, wrong_days, NoDays)

# For each function its parameters in the order in which their errors are listed.
LISTED = [
    (called, [LANE, CAR]),
    (leaving, [LANE, CAR]),
    (after_calls, [LANE, GOOD_CALLS]),
    (first_lane, [LANE, GOOD_CALLS]),
    (fixed_part, [LANE, GOOD_CALLS]),
    (case_of, [LANE, GOOD_CALLS]),
    (end_lane, [GOOD_CALLS, CASE]),
    (day_map, [GOOD_CALLS]),
    (after_so_many, [LANE, GOOD_CALLS, DAYS]),
    (cycles_of, [GOOD_CALLS]),
    (period, [LANE, GOOD_CALLS]),
    (day_before, [LANE, GOOD_CALLS]),
    (count_before, [LANE, GOOD_CALLS]),
]


class WrongInputs(unittest.TestCase):
    def assert_raises_just(self, kind, function, arguments):
        with self.assertRaises(ValueError) as caught:
            function(*arguments)
        self.assertIs(type(caught.exception), kind)
        self.assertIsInstance(caught.exception, LaneError)

    def test_right_values_raise_nothing(self):
        for function, parameters in LISTED:
            function(*[right for right, _, _ in parameters])

    def test_one_wrong_value(self):
        for function, parameters in LISTED:
            for at, (_, wrong, kind) in enumerate(parameters):
                for which, value in enumerate(wrong()):
                    with self.subTest(function=function.__name__, parameter=at, which=which):
                        arguments = [right for right, _, _ in parameters]
                        arguments[at] = value
                        self.assert_raises_just(kind, function, arguments)

    def test_several_wrong_values_raise_the_error_that_is_listed_first(self):
        for function, parameters in LISTED:
            for first in range(len(parameters) - 1):
                kind = parameters[first][2]
                before = [[right] for right, _, _ in parameters[:first]]
                for which, arguments in enumerate(product(
                    *before, *[wrong()[:40:3] + wrong()[-4:] for _, wrong, _ in parameters[first:]]
                )):
                    with self.subTest(function=function.__name__, first=first, which=which):
                        self.assert_raises_just(kind, function, arguments)

    def test_wrong_first_and_last(self):
        for arguments in product(wrong_lanes()[::5], [CALLS], wrong_days()[::5]):
            self.assert_raises_just(NoLane, after_so_many, arguments)

    def test_cases_that_are_not_called(self):
        for calls, case in [((1,), True), ((0,), False), ((0, 1), 2), ((59,), 0), ((2, 2), "2"), ((1,), (1,))]:
            with self.subTest(calls=calls, case=case):
                self.assert_raises_just(NoCase, end_lane, (calls, case))

    def test_days_at_the_limits(self):
        for days in [0, 1, 10 ** 30]:
            after_days((), CALLS, days=days)
        for days in [-1, 10 ** 30 + 1, True, False, None, "1", (1,)]:
            self.assert_raises_just(NoDays, after_so_many, ((), CALLS, days))

    def test_lanes_that_are_no_end_lanes(self):
        for function in [day_before, count_before]:
            for lane in wrong_ends():
                with self.subTest(function=function.__name__, lane=lane):
                    self.assert_raises_just(NotEnd, function, (lane, CALLS))

    def test_calls_are_checked_before_the_end_lane(self):
        for function in [day_before, count_before]:
            for lane, calls in product(wrong_ends(), wrong_calls()):
                self.assert_raises_just(NoCalls, function, (lane, calls))

    def test_the_errors_of_lanes_from_come_with_the_first_item(self):
        for lane, calls, kind in [((1, 1), CALLS, NoLane), ((), (), NoCalls), ([], [], NoLane)]:
            lanes = lanes_from(lane, calls)
            with self.assertRaises(kind):
                next(lanes)


class Arguments(unittest.TestCase):
    def test_right_ones_stay_as_they_were(self):
        for function, parameters in LISTED:
            arguments = [copy.copy(right) for right, _, _ in parameters]
            function(*arguments)
            self.assertEqual(arguments, [right for right, _, _ in parameters])

    def test_wrong_ones_stay_as_they_were(self):
        inner = [3, 1]
        values = [[0, 1], {0: 1, None: 0}, {1, 2}, (inner, 0), ([inner],)]
        kept = copy.deepcopy(values)
        for function, parameters in LISTED:
            for arguments in product(values, repeat=len(parameters)):
                with self.assertRaises(LaneError):
                    function(*arguments)
        self.assertEqual(values, kept)

    def test_equal_arguments_give_equal_results_after_an_error(self):
        for function, parameters in LISTED:
            right = [value for value, _, _ in parameters]
            told = function(*right)
            for at, (_, wrong, _) in enumerate(parameters):
                with self.assertRaises(LaneError):
                    function(*right[:at], wrong()[0], *right[at + 1:])
            self.assertEqual(function(*right), told)


if __name__ == "__main__":
    unittest.main()
