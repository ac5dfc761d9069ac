"""Section 6, with the points [2] (d) and [10]."""

import unittest
from itertools import islice

from deadlane.days import period
from deadlane.lanes import lanes_from
from deadlane.moments import clear_cycles, count_clear, lane_at, next_clear, nth_clear
from tests.samples import CALLS, all_calls, all_lanes, long_calls, slow_call

FULL = tuple(range(60))
LAST_MOMENT = 10 ** 36
LAST_INDEX = 10 ** 30

# Lanes with and without a fixed part for calls of the cars 0 to 2, and with cars behind it that are not called.
LANES = [(), (0,), (1,), (2,), (7,), (7, 59), (7, 1), (7, 59, 2), (2, 7), (1, 8, 0), (7, 0, 8, 2), (2, 1, 0)]


def slow_lanes(lane, calls, moments):
    """The lanes at the moments from 0 on."""
    lanes = [lane]
    while len(lanes) < moments:
        lanes.append(slow_call(lanes[-1], calls[(len(lanes) - 1) % len(calls)]))
    return lanes


def slow_clear(lane, calls, moments):
    """The clear moments among the first so many."""
    lanes = slow_lanes(lane, calls, moments)
    return [at for at in range(moments) if not set(lanes[at]) & set(calls)]


def slow_next_clear(calls, moment):
    """The first moment after this one at which a lane that is empty at it is empty again."""
    lane = slow_call((), calls[moment % len(calls)])
    moment += 1
    while lane:
        lane = slow_call(lane, calls[moment % len(calls)])
        moment += 1
    return moment


class Examples(unittest.TestCase):
    def test_lane_at(self):
        told = [lane_at((), CALLS, 3), lane_at((), CALLS, 6), lane_at((), CALLS, 10 ** 36)]
        self.assertEqual(told, [(0, 1, 2), (1,), ()])

    def test_next_clear(self):
        self.assertEqual([next_clear(CALLS, moment) for moment in [0, 1, 2, 3, 5]], [5, 4, 7, 6, 8])

    def test_nth_clear(self):
        told = [nth_clear((), CALLS, 2), nth_clear((2,), CALLS, 0), nth_clear((), CALLS, 10 ** 30)]
        self.assertEqual(told, [8, 3, 4000000000000000000000000000000])

    def test_count_clear(self):
        self.assertEqual([count_clear((), CALLS, 8), count_clear((), CALLS, 9), count_clear((2,), CALLS, 3)], [2, 3, 0])

    def test_clear_cycles(self):
        told = [clear_cycles((0, 1, 2, 1)), clear_cycles((0, 1, 0))]
        self.assertEqual(told, [[[0, 1], [2, 3]], [[0], [1, 2]]])


class LaneAt(unittest.TestCase):
    def test_it_is_one_call_after_the_other(self):
        for calls in all_calls(3, 4):
            for lane in LANES:
                for moment, now in enumerate(slow_lanes(lane, calls, 20)):
                    self.assertEqual(lane_at(lane, calls, moment), now)

    def test_all_lanes(self):
        for calls in [CALLS, (0, 0, 1), (2, 1, 0, 2), (1, 1)]:
            for lane in all_lanes(range(4)):
                for moment, now in enumerate(slow_lanes(lane, calls, 14)):
                    self.assertEqual(lane_at(lane, calls, moment), now)

    def test_long_calls(self):
        for calls in long_calls():
            for lane in [(), (0,), (59, 0), (58, 2, 57, 12), FULL, FULL[::-1]]:
                for moment, now in enumerate(slow_lanes(lane, calls, 450)):
                    if moment % 7 == 0 or moment % len(calls) in (0, 1):
                        self.assertEqual(lane_at(lane, calls, moment), now)

    def test_moment_0_leaves_any_lane_as_it_is(self):
        for lane in [*LANES, FULL, FULL[::-1]]:
            self.assertEqual(lane_at(lane, CALLS, 0), lane)

    def test_moments_up_to_the_last_one(self):
        for calls in [*all_calls(3, 3), *long_calls()]:
            for lane in [(), (0,), (7, 2, 1), (58, 0, 57, 12)]:
                turn = period(lane, calls) * len(calls)
                lanes = list(islice(lanes_from(lane, calls), 2 * turn + len(calls)))
                for back in [0, 1, len(calls) - 1, len(calls), len(calls) + 1]:
                    few = (LAST_MOMENT - back) % turn + turn
                    self.assertEqual(lane_at(lane, calls, LAST_MOMENT - back), lanes[few])

    def test_the_fixed_part_stays(self):
        for moment in [0, 1, 2, 3, 4, LAST_MOMENT - 1, LAST_MOMENT]:
            self.assertEqual(lane_at((7, 59, 2), CALLS, moment), (7, 59) + lane_at((2,), CALLS, moment))
        self.assertEqual(lane_at((7, 2, 8), CALLS, 2), (7, 2, 8, 0, 1))
        self.assertEqual(lane_at((7, 2, 8), CALLS, 3), (7,))


class NextClear(unittest.TestCase):
    def test_a_lane_that_is_empty_now(self):
        for calls in [*all_calls(3, 4), *long_calls()]:
            for moment in [*range(12), len(calls) - 1, len(calls), 2 * len(calls) + 1]:
                self.assertEqual(next_clear(calls, moment), slow_next_clear(calls, moment))

    def test_moments_up_to_the_last_one(self):
        for calls in [*all_calls(3, 3), *long_calls()]:
            for moment in [LAST_MOMENT, LAST_MOMENT - 1, LAST_MOMENT - len(calls)]:
                few = moment % len(calls)
                self.assertEqual(next_clear(calls, moment) - moment, slow_next_clear(calls, few) - few)

    def test_one_call_and_200(self):
        self.assertEqual([next_clear((0,), moment) for moment in [0, 1, LAST_MOMENT]], [2, 3, LAST_MOMENT + 2])
        self.assertEqual([next_clear((59,) * 200, moment) for moment in [0, 198, 199]], [2, 200, 201])
        self.assertEqual([next_clear(FULL, moment) for moment in [0, 59, 60]], [61, 120, 121])

    def test_d_the_next_call_of_the_same_car(self):
        for calls in all_calls(3, 5):
            for moment in range(len(calls)):
                later = moment + 1
                while calls[later % len(calls)] != calls[moment]:
                    later += 1
                self.assertEqual(next_clear(calls, moment), later + 1)


class NthAndCountClear(unittest.TestCase):
    def assert_agree(self, lane, calls, moments):
        clear = slow_clear(lane, calls, moments)
        self.assertEqual([nth_clear(lane, calls, at) for at in range(len(clear))], clear)
        for moment in range(0, moments, 1 + moments // 60):
            self.assertEqual(count_clear(lane, calls, moment), len([at for at in clear if at < moment]))

    def test_few_calls(self):
        for calls in all_calls(3, 4):
            for lane in LANES:
                self.assert_agree(lane, calls, 40)

    def test_long_calls(self):
        for calls in long_calls():
            for lane in [(), (0,), (59, 0), (58, 2, 57, 12), FULL, FULL[::-1]]:
                self.assert_agree(lane, calls, 1000)

    def test_one_follows_the_other(self):
        for calls in [CALLS, *long_calls()]:
            for index in [0, 1, 2, 59, LAST_INDEX - 1]:
                moment = nth_clear((), calls, index)
                self.assertEqual(nth_clear((), calls, index + 1), next_clear(calls, moment))

    def test_indexes_up_to_the_last_one(self):
        for calls in [*all_calls(3, 3), *long_calls()]:
            for lane in [(), (0,), (7, 2, 1), (58, 0, 57, 12)]:
                for index in [0, LAST_INDEX - 1, LAST_INDEX]:
                    moment = nth_clear(lane, calls, index)
                    self.assertFalse(set(lane_at(lane, calls, moment)) & set(calls))
                    self.assertEqual(count_clear(lane, calls, moment), index)
                    self.assertEqual(count_clear(lane, calls, moment + 1), index + 1)

    def test_moments_up_to_the_last_one(self):
        for calls in [*all_calls(3, 3), *long_calls()]:
            for lane in [(), (0,), (7, 2, 1), (58, 0, 57, 12)]:
                turn = period(lane, calls) * len(calls)
                in_a_turn = count_clear(lane, calls, 3 * turn) - count_clear(lane, calls, 2 * turn)
                for back in [0, 1, len(calls)]:
                    turns, rest = divmod(LAST_MOMENT - back - turn, turn)
                    count = count_clear(lane, calls, turn + rest) + turns * in_a_turn
                    self.assertEqual(count_clear(lane, calls, LAST_MOMENT - back), count)

    def test_no_moment_is_less_than_0(self):
        for lane in [*LANES, FULL]:
            self.assertEqual(count_clear(lane, CALLS, 0), 0)

    def test_a_lane_of_cars_that_are_not_called_is_clear(self):
        self.assertEqual([nth_clear((7, 59), CALLS, index) for index in range(3)], [0, 5, 8])
        self.assertEqual([count_clear((7, 59), CALLS, moment) for moment in [0, 1, 5, 6]], [0, 1, 1, 2])

    def test_the_first_clear_moment_waits_for_the_case(self):
        self.assertEqual([nth_clear((7, 2, 8, 0), CALLS, index) for index in range(2)], [3, 6])
        self.assertEqual([count_clear((7, 2, 8, 0), CALLS, moment) for moment in [3, 4, 6, 7]], [0, 1, 1, 2])


class ClearCycles(unittest.TestCase):
    def test_the_indexes_at_which_the_lane_is_clear(self):
        for calls in [*all_calls(3, 5), (0, 59), (3, 1, 3, 1, 0, 0)]:
            cycles = clear_cycles(calls)
            for at in range(len(calls)):
                moments = [at]
                while len(moments) <= len(calls):
                    moments.append(slow_next_clear(calls, moments[-1]))
                found = sorted({moment % len(calls) for moment in moments})
                self.assertEqual([cycle for cycle in cycles if at in cycle], [found])

    def test_order(self):
        for calls in [*all_calls(3, 5), *long_calls()]:
            cycles = clear_cycles(calls)
            self.assertEqual(cycles, sorted(sorted(cycle) for cycle in cycles))
            self.assertEqual(sorted(at for cycle in cycles for at in cycle), list(range(len(calls))))

    def test_one_call_and_200(self):
        self.assertEqual(clear_cycles((59,)), [[0]])
        evens, odds = list(range(0, 200, 2)), list(range(1, 200, 2))
        self.assertEqual(clear_cycles((0,) * 200), [evens, odds])
        self.assertEqual(clear_cycles(FULL), [list(FULL)])

    def test_the_lists_are_new(self):
        cycles = clear_cycles(CALLS)
        cycles[0].clear()
        cycles[1].append(5)
        cycles.append([])
        self.assertEqual(clear_cycles(CALLS), [[0, 1], [2, 3]])
        self.assertIsNot(clear_cycles(CALLS)[0], clear_cycles(CALLS)[0])


if __name__ == "__main__":
    unittest.main()
