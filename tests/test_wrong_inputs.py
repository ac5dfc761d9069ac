"""The errors of each function: their classes, their order, and that they leave everything as it was."""

import copy
import unittest
from itertools import product

from deadlane.console import Console
from deadlane.counting import count_entering, count_forced, count_leaving, longest
from deadlane.crossings import count_cycles, crossing_in, gaps_of, genus
from deadlane.days import after_days, count_before, cycles_of, day_before, day_map, end_lane, period
from deadlane.errors import (
    LaneError, NoCalls, NoCar, NoCase, NoDays, NoIndex, NoLane, NoMap, NoMoment, NoOperation, NoProgram, NoRow, NoSize,
    NoText, NotEnd,
)
from deadlane.lanes import after_calls, called, case_of, fixed_part, lanes_from, leaving
from deadlane.live import LiveLane
from deadlane.moments import clear_cycles, count_clear, lane_at, next_clear, nth_clear
from deadlane.plans import count_plans, fewest_calls, has_map, plan_for, route
from deadlane.programs import after_program, cars_of, count_calls, map_of
from deadlane.texts import read_calls, read_lane, read_program, show_lane, show_program
from tests.samples import (
    CALLS, levels, same_map, steps_in_all, wrong_calls, wrong_cars, wrong_cases, wrong_days, wrong_ends, wrong_indexes,
    wrong_lane_texts, wrong_lanes, wrong_live_days, wrong_maps, wrong_moments, wrong_operations, wrong_program_texts,
    wrong_programs, wrong_rows, wrong_sizes, wrong_small_maps, wrong_texts,
)


def first_lane(lane, calls):
    return next(lanes_from(lane, calls))


def after_so_many(lane, calls, days):
    return after_days(lane, calls, days=days)


def count_so_many(case_map, size):
    return count_plans(case_map, size=size)


def counted(function):
    def so_many(lane, calls, days):
        return function(lane, calls, days=days)

    so_many.__name__ = function.__name__
    return so_many


def count_forced_so_many(lane, calls, car, days):
    return count_forced(lane, calls, car, days=days)


def live_lane(lane):
    return LiveLane(lane).lane


def live_call(car):
    return LiveLane.of(2, 1).call(car)


def live_repeat(calls, days):
    return LiveLane.of(2, 1).repeat(calls, days=days)


def live_run(program):
    return LiveLane.of(2, 1).run(program)


def live_preview(first, second):
    return LiveLane.of(2, 1).preview(first, second)


def say(row):
    console = Console()
    console.say("lane 2 1")
    console.say("calls 0 1 2 1")
    return console.say(row)


# For each parameter: a right value, its wrong ones, the error.
LANE = ((2, 1), wrong_lanes, NoLane)
CAR = (1, wrong_cars, NoCar)
GOOD_CALLS = (CALLS, wrong_calls, NoCalls)
CASE = (1, wrong_cases, NoCase)
DAYS = (3, wrong_days, NoDays)
MOMENT = (5, wrong_moments, NoMoment)
INDEX = (2, wrong_indexes, NoIndex)
MAP = ({1: None, None: 1, 2: 2}, wrong_maps, NoMap)
SMALL_MAP = ({1: 2, None: None, 2: 1}, wrong_small_maps, NoMap)
SIZE = (3, wrong_sizes, NoSize)
PROGRAM = ((0, (3, (1, 2)), 1), wrong_programs, NoProgram)
LIVE_DAYS = (3, wrong_live_days, NoDays)
OPERATION = (("repeat", CALLS, 2), wrong_operations, NoOperation)
LANE_TEXT = ("2 1", wrong_lane_texts, NoText)
CALLS_TEXT = ("0 1 2 1", wrong_texts, NoText)
PROGRAM_TEXT = ("0 3*(1 2) 1", wrong_program_texts, NoText)
ROW = ("days 3", wrong_rows, NoRow)

# For each function its parameters in the order in which their errors are listed.
LISTED = [
    (called, [LANE, CAR]),
    (leaving, [LANE, CAR]),
    (after_calls, [LANE, GOOD_CALLS]),
    (first_lane, [LANE, GOOD_CALLS]),
    (fixed_part, [LANE, GOOD_CALLS]),
    (case_of, [LANE, GOOD_CALLS]),
    (end_lane, [GOOD_CALLS, CASE]),
    (day_map, [GOOD_CALLS]),
    (after_so_many, [LANE, GOOD_CALLS, DAYS]),
    (cycles_of, [GOOD_CALLS]),
    (period, [LANE, GOOD_CALLS]),
    (day_before, [LANE, GOOD_CALLS]),
    (count_before, [LANE, GOOD_CALLS]),
    (lane_at, [LANE, GOOD_CALLS, MOMENT]),
    (next_clear, [GOOD_CALLS, MOMENT]),
    (nth_clear, [LANE, GOOD_CALLS, INDEX]),
    (count_clear, [LANE, GOOD_CALLS, MOMENT]),
    (clear_cycles, [GOOD_CALLS]),
    (crossing_in, [GOOD_CALLS]),
    (count_cycles, [GOOD_CALLS]),
    (genus, [GOOD_CALLS]),
    (gaps_of, [GOOD_CALLS]),
    (fewest_calls, [MAP]),
    (plan_for, [MAP]),
    (has_map, [GOOD_CALLS, MAP]),
    (count_so_many, [SMALL_MAP, SIZE]),
    (route, [LANE, LANE]),
    (count_calls, [PROGRAM]),
    (cars_of, [PROGRAM]),
    (after_program, [LANE, PROGRAM]),
    (map_of, [PROGRAM]),
    (counted(count_entering), [LANE, GOOD_CALLS, DAYS]),
    (counted(count_leaving), [LANE, GOOD_CALLS, DAYS]),
    (counted(longest), [LANE, GOOD_CALLS, DAYS]),
    (count_forced_so_many, [LANE, GOOD_CALLS, CAR, DAYS]),
    (live_lane, [LANE]),
    (live_call, [CAR]),
    (live_repeat, [GOOD_CALLS, LIVE_DAYS]),
    (live_run, [PROGRAM]),
    (live_preview, [OPERATION, OPERATION]),
    (show_lane, [LANE]),
    (read_lane, [LANE_TEXT]),
    (read_calls, [CALLS_TEXT]),
    (show_program, [PROGRAM]),
    (read_program, [PROGRAM_TEXT]),
    (say, [ROW]),
]


def some_of(values, parameters):
    """Some of the wrong values of one of so many parameters, fewer of them where there are more parameters."""
    step = 3 if parameters < 4 else 8
    return values[:40:step] + values[-4:]


class WrongInputs(unittest.TestCase):
    def assert_raises_just(self, kind, function, arguments):
        with self.assertRaises(ValueError) as caught:
            function(*arguments)
        self.assertIs(type(caught.exception), kind)
        self.assertIsInstance(caught.exception, LaneError)

    def test_right_values_raise_nothing(self):
        for function, parameters in LISTED:
            function(*[right for right, _, _ in parameters])

    def test_one_wrong_value(self):
        for function, parameters in LISTED:
            for at, (_, wrong, kind) in enumerate(parameters):
                for which, value in enumerate(wrong()):
                    with self.subTest(function=function.__name__, parameter=at, which=which):
                        arguments = [right for right, _, _ in parameters]
                        arguments[at] = value
                        self.assert_raises_just(kind, function, arguments)

    def test_several_wrong_values_raise_the_error_that_is_listed_first(self):
        for function, parameters in LISTED:
            for first in range(len(parameters) - 1):
                kind = parameters[first][2]
                before = [[right] for right, _, _ in parameters[:first]]
                for which, arguments in enumerate(product(
                    *before, *[some_of(wrong(), len(parameters)) for _, wrong, _ in parameters[first:]]
                )):
                    with self.subTest(function=function.__name__, first=first, which=which):
                        self.assert_raises_just(kind, function, arguments)

    def test_wrong_first_and_last(self):
        for arguments in product(wrong_lanes()[::5], [CALLS], wrong_days()[::5]):
            self.assert_raises_just(NoLane, after_so_many, arguments)

    def test_cases_that_are_not_called(self):
        for calls, case in [((1,), True), ((0,), False), ((0, 1), 2), ((59,), 0), ((2, 2), "2"), ((1,), (1,))]:
            with self.subTest(calls=calls, case=case):
                self.assert_raises_just(NoCase, end_lane, (calls, case))

    def test_days_at_the_limits(self):
        for days in [0, 1, 10 ** 30]:
            after_days((), CALLS, days=days)
        for days in [-1, 10 ** 30 + 1, True, False, None, "1", (1,)]:
            self.assert_raises_just(NoDays, after_so_many, ((), CALLS, days))

    def test_moments_at_the_limits(self):
        for moment in [0, 1, 10 ** 36]:
            for function, arguments in [(lane_at, ((), CALLS)), (next_clear, (CALLS,)), (count_clear, ((), CALLS))]:
                function(*arguments, moment)
                for wrong in [-1, 10 ** 36 + 1, True, False, None, "1", (1,)]:
                    self.assert_raises_just(NoMoment, function, (*arguments, wrong))

    def test_indexes_at_the_limits(self):
        for index in [0, 1, 10 ** 30]:
            nth_clear((), CALLS, index)
        for index in [-1, 10 ** 30 + 1, True, False, None, "1", (1,)]:
            self.assert_raises_just(NoIndex, nth_clear, ((), CALLS, index))

    def test_sizes_and_maps_at_the_limits(self):
        for cars, size in product([0, 1, 9], [0, 1, 60]):
            count_plans(same_map(cars), size=size)
            self.assert_raises_just(NoMap, count_so_many, (same_map(10), size))
        for size in [-1, 61, True, False, None, "1", (1,)]:
            self.assert_raises_just(NoSize, count_so_many, (same_map(9), size))
            self.assert_raises_just(NoMap, count_so_many, (same_map(10), size))

    def test_programs_at_the_limits(self):
        for program in [(0,) * 60, steps_in_all(200), levels(8), levels(8, times=10 ** 30)]:
            for function in [count_calls, cars_of, map_of]:
                function(program)
            after_program((), program)
        for program in [(0,) * 61, steps_in_all(201), levels(9), levels(8, times=10 ** 30 + 1), levels(8, times=0)]:
            for function in [count_calls, cars_of, map_of]:
                self.assert_raises_just(NoProgram, function, (program,))
            self.assert_raises_just(NoProgram, after_program, ((), program))

    def test_lanes_that_are_no_end_lanes(self):
        for function in [day_before, count_before]:
            for lane in wrong_ends():
                with self.subTest(function=function.__name__, lane=lane):
                    self.assert_raises_just(NotEnd, function, (lane, CALLS))

    def test_calls_are_checked_before_the_end_lane(self):
        for function in [day_before, count_before]:
            for lane, calls in product(wrong_ends(), wrong_calls()):
                self.assert_raises_just(NoCalls, function, (lane, calls))

    def test_the_errors_of_lanes_from_come_with_the_first_item(self):
        for lane, calls, kind in [((1, 1), CALLS, NoLane), ((), (), NoCalls), ([], [], NoLane)]:
            lanes = lanes_from(lane, calls)
            with self.assertRaises(kind):
                next(lanes)


class Arguments(unittest.TestCase):
    def test_right_ones_stay_as_they_were(self):
        for function, parameters in LISTED:
            arguments = [copy.copy(right) for right, _, _ in parameters]
            function(*arguments)
            # The texts tell the order of the items of a dict, too.
            self.assertEqual(repr(arguments), repr([right for right, _, _ in parameters]))

    def test_wrong_ones_stay_as_they_were(self):
        inner = [3, 1]
        values = [[0, 1], {0: 1, None: 0}, {1, 2}, (inner, 0), ([inner],)]
        kept = copy.deepcopy(values)
        for function, parameters in LISTED:
            for arguments in product(values, repeat=len(parameters)):
                with self.assertRaises(LaneError):
                    function(*arguments)
        self.assertEqual(values, kept)

    def test_equal_arguments_give_equal_results_after_an_error(self):
        for function, parameters in LISTED:
            right = [value for value, _, _ in parameters]
            told = function(*right)
            for at, (_, wrong, _) in enumerate(parameters):
                with self.assertRaises(LaneError):
                    function(*right[:at], wrong()[0], *right[at + 1:])
            self.assertEqual(function(*right), told)


if __name__ == "__main__":
    unittest.main()
