"""Section 5, with the points [2], [8] and [9]."""

import unittest
from itertools import islice

from deadlane.days import after_days, count_before, cycles_of, day_before, day_map, end_lane, period
from deadlane.lanes import case_of, fixed_part, lanes_from
from tests.samples import CALLS, all_calls, all_lanes, crossed, long_calls, slow_call, slow_day

FULL = tuple(range(60))
FOREVER = 10 ** 30


def cases_of(calls):
    return [None, *sorted(set(calls))]


class Examples(unittest.TestCase):
    def test_end_lane(self):
        self.assertEqual([end_lane(CALLS, case) for case in [None, 0, 1, 2]], [(0,), (), (2, 1), (1,)])

    def test_day_map(self):
        self.assertEqual(day_map(CALLS), {None: 0, 0: None, 1: 2, 2: 1})
        self.assertEqual(str(day_map(CALLS)), "{None: 0, 0: None, 1: 2, 2: 1}")

    def test_after_days(self):
        told = [after_days((2,), CALLS), after_days((2,), CALLS, days=2), after_days((7, 2), CALLS, days=10 ** 30)]
        self.assertEqual(told, [(1,), (2, 1), (7, 2, 1)])

    def test_cycles_of(self):
        self.assertEqual([cycles_of(CALLS), cycles_of((0, 1, 2))], [[[None, 0], [1, 2]], [[None, 0, 1, 2]]])

    def test_period(self):
        self.assertEqual([period((), (0, 1, 2, 1)), period((), (0, 1, 2)), period((5,), (0, 0))], [2, 4, 1])

    def test_day_before(self):
        self.assertEqual([day_before((1,), CALLS), day_before((), CALLS)], [(2, 1), (0,)])

    def test_count_before(self):
        self.assertEqual([count_before((1,), CALLS), count_before((0,), CALLS)], [5, 1])


class EndLane(unittest.TestCase):
    def test_it_ends_each_day_of_a_lane_of_this_case(self):
        for calls in all_calls(3, 4):
            for lane in all_lanes([*set(calls), 9]):
                if not fixed_part(lane, calls):
                    self.assertEqual(end_lane(calls, case_of(lane, calls)), slow_day(lane, calls))

    def test_cars_0_and_59(self):
        self.assertEqual([end_lane((0, 59), case) for case in [None, 0, 59]], [(0, 59), (59,), ()])

    def test_long_calls(self):
        for calls in long_calls():
            self.assertEqual(end_lane(calls, None), slow_day((), calls))
            for case in cases_of(calls)[1:]:
                self.assertEqual(end_lane(calls, case), slow_day((case,), calls))
                self.assertEqual(end_lane(calls, case), slow_day((case, *set(calls) - {case}), calls))

    def test_different_cases_have_different_end_lanes(self):
        for calls in [*all_calls(3, 5), *long_calls()]:
            ends = [end_lane(calls, case) for case in cases_of(calls)]
            self.assertEqual(len(set(ends)), len(cases_of(calls)))


class DayMap(unittest.TestCase):
    def test_it_leads_to_the_case_of_the_end_lane(self):
        for calls in [*all_calls(3, 5), *long_calls()]:
            leads = {case: case_of(end_lane(calls, case), calls) for case in cases_of(calls)}
            self.assertEqual(day_map(calls), leads)

    def test_a_day_is_a_chain_of_exchanges(self):
        for calls in all_calls(3, 5):
            for case in cases_of(calls):
                now = case
                for car in calls:
                    now = {None: car, car: None}.get(now, now)
                self.assertEqual(day_map(calls)[case], now)

    def test_none_is_first_and_the_cars_ascend(self):
        for calls in [(5, 3, 5, 59, 0), (9,), FULL[::-1], *all_calls(3, 3)]:
            self.assertEqual(list(day_map(calls)), cases_of(calls))

    def test_the_dict_is_new(self):
        day_map(CALLS).clear()
        self.assertEqual(day_map(CALLS), {None: 0, 0: None, 1: 2, 2: 1})
        self.assertIsNot(day_map(CALLS), day_map(CALLS))


class AfterDays(unittest.TestCase):
    def test_it_is_one_day_after_the_other(self):
        for calls in all_calls(3, 4):
            for lane in all_lanes(range(4)):
                now = lane
                for days in range(6):
                    self.assertEqual(after_days(lane, calls, days=days), now)
                    now = slow_day(now, calls)

    def test_long_calls(self):
        for calls in long_calls():
            for lane in [(), (0,), (59, 0), (58, 2, 57, 12), FULL, FULL[::-1]]:
                now = lane
                for days in range(70):
                    self.assertEqual(after_days(lane, calls, days=days), now)
                    now = slow_day(now, calls)

    def test_no_days_leave_any_lane_as_it_is(self):
        for lane in [(), (0, 1, 2), (2, 1, 0), (7, 1, 8), FULL]:
            self.assertEqual(after_days(lane, CALLS, days=0), lane)

    def test_without_days_it_is_one_day(self):
        for lane in all_lanes(range(4)):
            self.assertEqual(after_days(lane, CALLS), slow_day(lane, CALLS))

    def test_many_days(self):
        for calls in [*all_calls(3, 3), *long_calls()]:
            for lane in [(), (0,), (2, 1), (58, 0, 57, 12)]:
                cycle = period(lane, calls)
                few = FOREVER % cycle + cycle
                for back in range(3):
                    days = after_days(lane, calls, days=FOREVER - cycle - back)
                    self.assertEqual(days, after_days(lane, calls, days=few + cycle * 3 - back))
                self.assertEqual(after_days(lane, calls, days=FOREVER), after_days(lane, calls, days=few))

    def test_a_cycle_of_61_cases(self):
        self.assertEqual(after_days((), FULL, days=61), ())
        self.assertEqual(after_days((), FULL, days=FOREVER), FULL[FOREVER % 61 - 1:])

    def test_the_fixed_part_stays(self):
        for days in [0, 1, 2, 3, FOREVER - 1, FOREVER]:
            lane = after_days((7, 59, 2), CALLS, days=days)
            self.assertEqual(lane, (7, 59) + after_days((2,), CALLS, days=days))
        self.assertEqual(after_days((7, 59), CALLS, days=FOREVER), (7, 59))


class CyclesOf(unittest.TestCase):
    def test_the_day_map_leads_round_each_cycle(self):
        for calls in [*all_calls(3, 5), *long_calls()]:
            leads = day_map(calls)
            for cycle in cycles_of(calls):
                self.assertEqual([leads[case] for case in cycle], cycle[1:] + cycle[:1])

    def test_each_case_stands_in_one_cycle(self):
        for calls in [*all_calls(3, 5), *long_calls()]:
            cases = [case for cycle in cycles_of(calls) for case in cycle]
            self.assertEqual(len(cases), len(cases_of(calls)))
            self.assertEqual(set(cases), set(cases_of(calls)))

    def test_the_order_of_the_cycles(self):
        def rank(case):
            return -1 if case is None else case

        for calls in [*all_calls(3, 5), *long_calls()]:
            cycles = cycles_of(calls)
            firsts = [rank(cycle[0]) for cycle in cycles]
            self.assertEqual(firsts, [min(rank(case) for case in cycle) for cycle in cycles])
            self.assertEqual(firsts, sorted(firsts))

    def test_single_cases(self):
        self.assertEqual(cycles_of((0, 0)), [[None], [0]])
        self.assertEqual(cycles_of((59,) * 199), [[None, 59]])
        self.assertEqual(cycles_of((9, 9, 3, 3)), [[None], [3], [9]])

    def test_the_lists_are_new(self):
        cycles = cycles_of(CALLS)
        cycles[0].clear()
        cycles[1].append(5)
        cycles.append([])
        self.assertEqual(cycles_of(CALLS), [[None, 0], [1, 2]])
        self.assertIsNot(cycles_of(CALLS)[0], cycles_of(CALLS)[0])


class Period(unittest.TestCase):
    def test_it_is_the_least_number(self):
        for calls in all_calls(3, 4):
            for lane in all_lanes([0, 1, 2, 7]):
                ends = []
                now = lane
                for _ in range(16):
                    now = slow_day(now, calls)
                    ends.append(now)
                least = min(p for p in range(1, 9) if all(ends[at] == ends[at + p] for at in range(8)))
                self.assertEqual(period(lane, calls), least)

    def test_it_depends_on_the_case_only(self):
        self.assertEqual([period(lane, (0, 0, 1, 2)) for lane in [(), (0,), (1,), (2,)]], [3, 1, 3, 3])
        self.assertEqual([period(lane, (0, 0, 1, 2)) for lane in [(7,), (7, 0, 1), (7, 2), (0, 9)]], [3, 1, 3, 1])

    def test_60_cars(self):
        self.assertEqual([period((), FULL), period(FULL, FULL), period((), (59,) * 200)], [61, 61, 1])


class DayBefore(unittest.TestCase):
    def test_a_day_leads_back(self):
        for calls in [*all_calls(3, 5), *long_calls()]:
            ends = [end_lane(calls, case) for case in cases_of(calls)]
            for end in ends:
                before = day_before(end, calls)
                self.assertIn(before, ends)
                self.assertEqual(slow_day(before, calls), end)

    def test_one_day_after_itself(self):
        self.assertEqual([day_before((), (0, 0)), day_before((0,), (0, 0, 0))], [(), ()])


class CountBefore(unittest.TestCase):
    def test_all_lanes_counted(self):
        for calls in [*all_calls(3, 4), (0, 1, 2, 3), (3, 0, 3, 1, 2, 1)]:
            ends = [slow_day(lane, calls) for lane in all_lanes(set(calls))]
            for end in set(ends):
                self.assertEqual(count_before(end, calls), ends.count(end))

    def test_one_car(self):
        self.assertEqual([count_before((), (59,)), count_before((59,), (59,))], [1, 1])

    def test_60_cars(self):
        count = 1
        for cars in range(1, 60):
            count = count * cars + 1
        self.assertEqual(count_before(FULL[1:], FULL), count)
        self.assertEqual(count_before(FULL, FULL), 1)


class MainResults(unittest.TestCase):
    def test_a_the_lane_at_the_end_depends_on_the_innermost_car_only(self):
        for calls in all_calls(3, 4):
            ends = {}
            for lane in all_lanes(set(calls)):
                ends.setdefault(lane[:1], set()).add(after_days(lane, calls))
            self.assertEqual([len(found) for found in ends.values()], [1] * len(cases_of(calls)))

    def test_a_only_the_end_lanes_occur_and_each_comes_again(self):
        for calls in all_calls(3, 4):
            ends = [end_lane(calls, case) for case in cases_of(calls)]
            for lane in all_lanes(set(calls)):
                for days in range(1, 6):
                    self.assertIn(after_days(lane, calls, days=days), ends)
            for end in ends:
                self.assertEqual(after_days(end, calls, days=period(end, calls)), end)

    def test_a_the_lengths_add_up(self):
        for calls in [*all_calls(3, 5), *long_calls()]:
            self.assertEqual(sum(len(cycle) for cycle in cycles_of(calls)), len(set(calls)) + 1)

    def test_b_a_call_exchanges_no_car_and_the_car(self):
        for lane in all_lanes(range(4)):
            for car in range(4):
                before, after = case_of(lane, tuple(range(4))), case_of(slow_call(lane, car), tuple(range(4)))
                self.assertEqual(after, {None: car, car: None}.get(before, before))

    def test_c_the_number_of_cycles(self):
        for calls in [*all_calls(3, 5), *all_calls(4, 4), (0, 1, 2, 0, 1, 2), (0, 1, 2, 2, 1, 0), (0, 1, 1, 0, 2, 3)]:
            most = len(calls) + 1 - len(set(calls))
            twice_genus = most - len(cycles_of(calls))
            self.assertEqual((twice_genus % 2, twice_genus >= 0), (0, True))
            flat = not crossed(calls) and max(calls.count(car) for car in calls) <= 2
            self.assertEqual(twice_genus == 0, flat)

    def test_d_the_lane_is_empty_again_after_the_next_call_of_the_car(self):
        for calls in all_calls(3, 4):
            lanes = list(islice(lanes_from((), calls), 40))
            for at, lane in enumerate(lanes[:20]):
                if lane == ():
                    car = calls[at % len(calls)]
                    again = next(t for t in range(at + 1, 40) if calls[t % len(calls)] == car) + 1
                    self.assertEqual(lanes.index((), at + 1), again)


if __name__ == "__main__":
    unittest.main()
