"""Section 8, with the points [2] (b) and [12]."""

import random
import unittest
from itertools import product
from math import factorial

from deadlane.days import day_map
from deadlane.lanes import case_of
from deadlane.plans import count_plans, fewest_calls, has_map, is_case_map, plan_for, route
from tests.samples import (
    CALLS, all_calls, all_lanes, all_maps, long_calls, same_map, slow_call, slow_day, slow_map, wrong_maps,
)

FULL = tuple(range(60))


def turned(case_map):
    """The same map, its items the other way round."""
    return dict(reversed(case_map.items()))


def map_of_cycles(*cycles):
    """The case map with these cycles."""
    case_map = {None: None}
    for cycle in cycles:
        case_map.update(zip(cycle, [*cycle[1:], cycle[0]]))
    return case_map


def random_maps():
    """Some case maps of 0 to 60 cars, the same ones each time."""
    dice = random.Random(13)
    for count in [0, 1, 2, 3, 5, 9, 10, 30, 59, 60]:
        cases = [None, *dice.sample(range(60), count)]
        for _ in range(5):
            yield dict(zip(cases, dice.sample(cases, len(cases))))


def whole_map(calls, cars):
    """The case map of calls, with these cars as keys, too."""
    return {**same_map(0), **{car: car for car in cars}, **slow_map(calls)}


def fewest_by_trying(cars):
    """Under each case map of these cars, as sorted items, the length of the shortest tuples that have it."""
    def key(case_map):
        return frozenset(case_map.items())

    found = {key(whole_map((), cars)): 0}
    tuples = [()]
    while tuples:
        longer = []
        for calls in tuples:
            for car in cars:
                at = key(whole_map((*calls, car), cars))
                if at not in found:
                    found[at] = len(calls) + 1
                    longer.append((*calls, car))
        tuples = longer
    return found


def shapes_of(cars):
    """A case map of so many cars for each combination of lengths of cycles, and the number of such maps."""
    def parts(total, most):
        if total == 0:
            yield ()
        for part in range(min(total, most), 0, -1):
            for others in parts(total - part, part):
                yield (part, *others)

    for first in range(1, cars + 2):
        for others in parts(cars + 1 - first, cars):
            rest = list(range(cars))
            cycles = [[None, *[rest.pop() for _ in range(first - 1)]]]
            cycles += [[rest.pop() for _ in range(length)] for length in others]
            count = factorial(cars)
            for length in others:
                count //= length
            for length in set(others):
                count //= factorial(others.count(length))
            yield map_of_cycles(*cycles), count


class Examples(unittest.TestCase):
    def test_is_case_map(self):
        told = [is_case_map({None: 0, 0: None}), is_case_map({0: 0}), is_case_map({None: None})]
        self.assertEqual(told, [True, False, True])

    def test_fewest_calls_and_plan_for(self):
        self.assertEqual(fewest_calls({None: 1, 1: 0, 0: None}), 2)
        self.assertEqual(plan_for({None: 1, 1: 0, 0: None}), (1, 0))
        self.assertEqual(fewest_calls({None: None, 0: 1, 1: 0}), 3)

    def test_has_map(self):
        told = [has_map((0, 1, 0), {None: None, 0: 1, 1: 0}), has_map((0,), {None: 0, 0: None, 5: 5})]
        self.assertEqual(told, [True, True])

    def test_count_plans(self):
        same = {None: None, 0: 0, 1: 1}
        self.assertEqual([count_plans(same, size=size) for size in [0, 1, 2, 3, 4]], [1, 0, 2, 0, 6])

    def test_route(self):
        self.assertEqual([route((0, 1, 2), (0, 3)), route((0,), (0,))], [(1, 3), ()])


class IsCaseMap(unittest.TestCase):
    def test_case_maps(self):
        for case_map in [*all_maps([0, 1, 59]), *random_maps(), same_map(0), same_map(9), same_map(10), same_map(60)]:
            self.assertIs(is_case_map(case_map), True)
            self.assertIs(is_case_map(turned(case_map)), True)

    def test_no_case_maps(self):
        for at, value in enumerate(wrong_maps()):
            with self.subTest(at=at):
                self.assertIs(is_case_map(value), False)

    def test_a_day_map_is_one(self):
        for calls in [*all_calls(3, 3), *long_calls()]:
            self.assertIs(is_case_map(day_map(calls)), True)


class FewestCallsAndPlanFor(unittest.TestCase):
    def assert_plan(self, case_map):
        plan = plan_for(case_map)
        self.assertIs(type(plan), tuple)
        self.assertEqual(len(plan), fewest_calls(case_map))
        self.assertLessEqual(set(plan), set(case_map))
        self.assertEqual(whole_map(plan, set(case_map) - {None}), case_map)

    def test_all_maps_of_few_cars(self):
        for cars in [[], [0], [0, 59], [3, 1, 2], [0, 1, 2, 3]]:
            found = fewest_by_trying(cars)
            self.assertEqual(len(found), factorial(len(cars) + 1))
            for case_map in all_maps(cars):
                self.assertEqual(fewest_calls(case_map), found[frozenset(case_map.items())])
                self.assert_plan(case_map)

    def test_many_cars(self):
        for case_map in [*random_maps(), same_map(9), same_map(10), same_map(60)]:
            self.assert_plan(case_map)

    def test_60_cars(self):
        self.assertEqual([fewest_calls(same_map(60)), plan_for(same_map(60))], [0, ()])
        self.assertEqual(fewest_calls(map_of_cycles([None, *FULL])), 60)
        self.assertEqual(plan_for(map_of_cycles([None, *FULL])), FULL)
        self.assertEqual(fewest_calls(map_of_cycles(FULL)), 61)
        self.assertEqual(fewest_calls(map_of_cycles(*zip(FULL[::2], FULL[1::2]))), 90)
        self.assertEqual(fewest_calls(map_of_cycles([None, 59], *zip(FULL[:58:2], FULL[1:58:2]))), 88)

    def test_the_order_of_the_items_does_not_matter(self):
        for case_map in [*all_maps([0, 1, 2]), *random_maps()]:
            self.assertEqual(fewest_calls(turned(case_map)), fewest_calls(case_map))
            self.assertEqual(plan_for(turned(case_map)), plan_for(case_map))
            shifted = [*list(case_map.items())[1:], *list(case_map.items())[:1]]
            self.assertEqual(plan_for(dict(shifted)), plan_for(case_map))

    def test_a_plan_may_be_passed_back(self):
        for case_map in random_maps():
            plan = plan_for(case_map)
            if plan:
                self.assertIs(has_map(plan, case_map), True)


class HasMap(unittest.TestCase):
    def test_all_maps_of_few_cars(self):
        for cars in [[], [0], [1], [0, 1], [1, 2], [0, 1, 2]]:
            maps = list(all_maps(cars))
            for calls in all_calls(3, 4):
                whole = whole_map(calls, cars)
                for case_map in maps:
                    right = set(calls) <= set(cars) and whole == case_map
                    self.assertIs(has_map(calls, case_map), right)

    def test_long_calls(self):
        for calls in long_calls():
            case_map = whole_map(calls, FULL)
            self.assertIs(has_map(calls, case_map), True)
            self.assertIs(has_map(calls, turned(case_map)), True)
            self.assertIs(has_map(calls, slow_map(calls)), True)
            self.assertIs(has_map((*calls[1:], (calls[0] + 1) % 60), case_map), False)

    def test_a_car_that_is_not_in_the_map(self):
        self.assertIs(has_map((5, 5), {None: None}), False)
        self.assertIs(has_map((5, 5), {None: None, 5: 5}), True)
        self.assertIs(has_map((5, 5, 0), {None: 0, 0: None}), False)

    def test_a_car_of_the_map_that_is_not_called(self):
        self.assertIs(has_map((0,), {None: 0, 0: None, 5: 5, 6: 6}), True)
        self.assertIs(has_map((0,), {None: 0, 0: None, 5: 6, 6: 5}), False)

    def test_b_a_call_exchanges_no_car_and_the_car(self):
        for lane in all_lanes(range(4)):
            for car in range(4):
                before, after = case_of(lane, tuple(range(4))), case_of(slow_call(lane, car), tuple(range(4)))
                case_map = {**same_map(4), None: car, car: None}
                self.assertEqual(case_map[before], after)
                self.assertIs(has_map((car,), case_map), True)

    def test_b_the_exchanges_lead_to_the_day_map(self):
        for calls in [*all_calls(3, 4), *long_calls()]:
            self.assertIs(has_map(calls, day_map(calls)), True)


class CountPlans(unittest.TestCase):
    def test_all_tuples_of_few_cars(self):
        for cars, most in [([], 2), ([59], 6), ([0, 1], 7), ([0, 1, 2], 6), ([5, 1, 3, 0], 5)]:
            counts = {}
            for size in range(most + 1):
                for calls in product(cars, repeat=size):
                    at = (size, frozenset(whole_map(calls, cars).items()))
                    counts[at] = counts.get(at, 0) + 1
            for case_map, size in product(all_maps(cars), range(most + 1)):
                count = counts.get((size, frozenset(case_map.items())), 0)
                self.assertEqual(count_plans(case_map, size=size), count)

    def test_every_tuple_has_one_map(self):
        for size in [0, 1, 2, 9, 30, 59, 60]:
            self.assertEqual(sum(count_plans(case_map, size=size) for case_map in all_maps([0, 1, 2])), 3 ** size)

    def test_every_tuple_of_9_cars_has_one_map(self):
        shapes = list(shapes_of(9))
        self.assertEqual(sum(count for _, count in shapes), factorial(10))
        for size in [0, 1, 2, 13, 59, 60]:
            total = sum(count * count_plans(case_map, size=size) for case_map, count in shapes)
            self.assertEqual(total, 9 ** size)

    def test_the_least_size_is_that_of_the_plan(self):
        for case_map, _ in shapes_of(6):
            least = fewest_calls(case_map)
            counts = [count_plans(case_map, size=size) for size in range(least + 3)]
            self.assertEqual([bool(count) for count in counts[:-2]], [False] * least + [True])
            self.assertEqual(counts[-2], 0)

    def test_no_call_and_60_calls(self):
        self.assertEqual([count_plans(same_map(cars), size=0) for cars in [0, 1, 9]], [1, 1, 1])
        self.assertEqual([count_plans({None: 0, 0: None}, size=size) for size in [0, 1, 59, 60]], [0, 1, 1, 0])
        self.assertEqual([count_plans(same_map(0), size=size) for size in [1, 2, 60]], [0, 0, 0])
        self.assertEqual(count_plans(same_map(1), size=60), 1)

    def test_9_cars(self):
        self.assertEqual([count_plans(same_map(9), size=size) for size in [1, 2, 3]], [0, 9, 0])
        # Four calls that undo each other: x x y y, or x y y x with another y.
        self.assertEqual(count_plans(same_map(9), size=4), 9 * 9 + 9 * 8)
        self.assertEqual(count_plans(map_of_cycles([None, *range(9)]), size=9), 1)

    def test_the_order_of_the_items_does_not_matter(self):
        for case_map in all_maps([0, 1, 2]):
            for size in [3, 4, 60]:
                self.assertEqual(count_plans(turned(case_map), size=size), count_plans(case_map, size=size))


class Route(unittest.TestCase):
    def test_it_is_the_only_shortest_tuple(self):
        lanes = list(all_lanes(range(3)))
        for lane in lanes:
            ends = {}
            for size in range(5):
                found = {}
                for calls in product(range(3), repeat=size):
                    found.setdefault(slow_day(lane, calls), []).append(calls)
                ends.update({end: tuples for end, tuples in found.items() if end not in ends})
            self.assertEqual(set(ends), set(lanes))
            for target in lanes:
                self.assertEqual([route(lane, target)], ends[target])

    def test_it_leads_there(self):
        lanes = [*all_lanes(range(4)), FULL, FULL[::-1], FULL[:30] + FULL[:29:-1], (59,), (59, 0, 3)]
        for lane, target in product(lanes, repeat=2):
            self.assertEqual(slow_day(lane, route(lane, target)), target)

    def test_to_the_same_lane_to_a_beginning_and_to_another_one(self):
        for lane in [(), (0,), (59, 0), (3, 1, 2), FULL]:
            self.assertEqual(route(lane, lane), ())
            self.assertEqual(route((), lane), lane)
            for size in range(len(lane)):
                self.assertEqual(route(lane, lane[:size]), (lane[size],))
                self.assertEqual(route(lane[:size], lane), lane[size:])
        self.assertEqual(route((0, 1), (1, 0)), (0, 1, 0))
        self.assertEqual(route((4, 5, 6, 7), (4, 5, 7, 8)), (6, 7, 8))
        self.assertEqual(route(FULL, FULL[::-1]), (0, *FULL[::-1]))
        self.assertEqual(route(FULL, FULL[:58] + (59, 58)), (58, 59, 58))

    def test_days_and_routes(self):
        for lane in all_lanes(range(4)):
            self.assertEqual(slow_day(lane, route(lane, slow_day(lane, CALLS))), slow_day(lane, CALLS))


if __name__ == "__main__":
    unittest.main()
