"""How much is done for the longest arguments: instructions of the package are counted, however busy the machine is."""

import os
import sys
import unittest

import deadlane
from deadlane.counting import count_entering, count_forced, count_leaving, longest
from deadlane.crossings import crossing_in, gaps_of, genus
from deadlane.days import after_days, count_before, cycles_of, day_before, day_map, end_lane, period
from deadlane.errors import NotEnd
from deadlane.lanes import after_calls, are_calls, called, case_of, is_lane, leaving
from deadlane.live import LiveLane
from deadlane.moments import clear_cycles, count_clear, lane_at, next_clear, nth_clear
from deadlane.plans import count_plans, has_map, plan_for
from deadlane.programs import after_program, is_program, map_of
from deadlane.texts import read_lane, read_program, show_lane, show_program
from tests.samples import many_times, same_map, steps_in_all

FOLDER = os.path.dirname(deadlane.__file__)
FULL = tuple(range(60))
CALLS = FULL * 3 + FULL[:20]


def instructions(function, *arguments, **named):
    """The number of instructions of the package that a call runs; what one instruction does is not weighed."""
    count = 0

    def trace(frame, event, _):
        nonlocal count
        if not frame.f_code.co_filename.startswith(FOLDER):
            return None
        frame.f_trace_opcodes = True
        count += event == "opcode"
        return trace

    before = sys.gettrace()
    sys.settrace(trace)
    try:
        function(*arguments, **named)
    finally:
        sys.settrace(before)
    return count


class Effort(unittest.TestCase):
    def assert_at_most(self, most, function, *arguments, **named):
        with self.subTest(function=function.__name__):
            self.assertLessEqual(instructions(function, *arguments, **named), most)

    def test_checks_look_once_at_each_item(self):
        for most, function, *arguments in [
            (1800, is_lane, FULL), (6000, are_calls, (1,) * 200), (1900, called, FULL, 59), (1900, leaving, FULL, 59),
        ]:
            self.assert_at_most(most, function, *arguments)

    def test_calls_are_looked_at_a_few_times(self):
        for most, function, *arguments in [
            (9000, end_lane, CALLS, 58), (9000, end_lane, CALLS, 3), (9000, after_calls, (), CALLS),
            (12000, day_map, CALLS), (18000, after_days, FULL, CALLS), (15000, cycles_of, CALLS),
            (15000, period, (), CALLS), (9000, case_of, FULL, (59,) * 200),
        ]:
            self.assert_at_most(most, function, *arguments)

    def test_days_are_not_tried_one_after_the_other(self):
        lane = end_lane(CALLS, 58)
        self.assert_at_most(18000, day_before, lane, CALLS)
        self.assert_at_most(15000, count_before, lane, CALLS)
        for function in [day_before, count_before]:
            with self.assertRaises(NotEnd):
                function(FULL, CALLS)

            def refused():
                with self.assertRaises(NotEnd):
                    function(FULL, CALLS)

            self.assert_at_most(15000, refused)

    def test_great_numbers_cost_no_more_than_small_ones(self):
        for most, function, *arguments in [
            (25000, lane_at, FULL, CALLS, 10 ** 36), (6000, next_clear, CALLS, 10 ** 36),
            (25000, nth_clear, FULL, CALLS, 10 ** 30), (25000, count_clear, FULL, CALLS, 10 ** 36),
            (25000, clear_cycles, CALLS),
        ]:
            self.assert_at_most(most, function, *arguments)

    def test_pairs_of_cars_are_not_tried(self):
        nested = FULL + FULL[::-1] + (0,) * 80
        for calls in [CALLS, nested]:
            self.assert_at_most(20000, crossing_in, calls)
            self.assert_at_most(15000, genus, calls)
            self.assert_at_most(20000, gaps_of, calls)

    def test_plans(self):
        pairs = {None: None, **{car: car ^ 1 for car in FULL}}
        self.assert_at_most(12000, plan_for, pairs)
        self.assert_at_most(20000, has_map, CALLS, pairs)
        self.assert_at_most(500000, count_plans, same_map(9), size=60)

    def test_programs(self):
        program = (0, 1, 2)
        for first in [0, 20, 40, 0, 20, 40, 30]:
            program = (*FULL[first:first + 20], (10 ** 30, program), 5)
        for value in [program, steps_in_all(200), many_times()]:
            self.assert_at_most(30000, is_program, value)
        self.assert_at_most(80000, after_program, FULL, program)
        self.assert_at_most(80000, map_of, program)

    def test_days_are_counted_by_stays(self):
        mixed = tuple(at * at * 7 // 3 % 60 for at in range(200))
        for most, calls in [(450000, CALLS), (90000, mixed), (65000, (59,) * 200), (75000, (0, 59) * 100)]:
            for days in [61, 10 ** 30]:
                self.assert_at_most(most, count_entering, FULL, calls, days=days)
                self.assert_at_most(most, count_leaving, (), calls, days=days)
                self.assert_at_most(most, longest, (), calls, days=days)
                self.assert_at_most(most, count_forced, FULL, calls, 59, days=days)

    def test_live_lanes(self):
        live = LiveLane(FULL[1:])
        for _ in range(100):
            self.assert_at_most(160, live.call, 59)
        self.assert_at_most(15000, live.repeat, CALLS, days=10 ** 30)
        self.assert_at_most(25, live.undo)
        self.assert_at_most(1000, live.log)
        self.assert_at_most(2000, live.preview, *live.log()[:12])

    def test_texts(self):
        program = steps_in_all(200)
        for most, function, argument in [
            (2500, show_lane, FULL), (5000, read_lane, show_lane(FULL)), (15000, show_program, program),
            (40000, read_program, show_program(program)),
        ]:
            self.assert_at_most(most, function, argument)


if __name__ == "__main__":
    unittest.main()
