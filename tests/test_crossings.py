"""Section 7, with the points [2] (c) and [11]."""

import random
import unittest
from itertools import combinations

from deadlane.crossings import count_cycles, crossing_in, gaps_of, genus
from deadlane.days import cycles_of
from deadlane.moments import next_clear
from tests.samples import CALLS, all_calls, long_calls, slow_map

FULL = tuple(range(60))


def slow_crossing(calls):
    """The first crossing among all tuples of indexes, as they ascend."""
    for i, j in combinations(range(len(calls)), 2):
        if calls[i] != calls[j] and calls[i] in calls[j + 1:] and calls[j] in calls[j + 1:]:
            for k, m in combinations(range(j + 1, len(calls)), 2):
                if calls[k] == calls[i] and calls[m] == calls[j]:
                    return i, j, k, m
    return None


def slow_cycles(calls):
    """The number of cycles of the day map, each counted at its first case."""
    leads = slow_map(calls)
    count = 0
    while leads:
        count += 1
        case = next(iter(leads))
        while case in leads:
            case = leads.pop(case)
    return count


def random_calls():
    """Some calls that look like nothing in particular, the same ones each time."""
    dice = random.Random(11)
    for size in [5, 6, 7, 8, 10, 12, 20, 40, 200]:
        for cars in [2, 3, 4, 7, 30, 60]:
            yield tuple(dice.randrange(cars) for _ in range(size))


def nested_calls():
    """Long calls without a crossing."""
    within = []
    for car in range(60):
        within = [car, *within, car] if car % 3 else [*within, car, car]
    return [tuple(within), (*FULL, *FULL[::-1], *[0] * 80), (*FULL, 59, 58, 57), (0, 1, 1, 0, 2, 3, 2, 0)]


class Examples(unittest.TestCase):
    def test_crossing_in(self):
        self.assertEqual([crossing_in((0, 1, 2, 1)), crossing_in((0, 1, 0, 1, 0))], [None, (0, 1, 2, 3)])

    def test_count_cycles_and_genus(self):
        told = [count_cycles(CALLS), genus(CALLS), count_cycles((0, 1, 0, 1)), genus((0, 1, 0, 1))]
        self.assertEqual(told, [2, 0, 1, 1])

    def test_gaps_of(self):
        self.assertEqual(gaps_of(CALLS), {0: [4], 1: [2, 2], 2: [4]})


class CrossingIn(unittest.TestCase):
    def test_it_is_the_least_of_all(self):
        for calls in [*all_calls(3, 6), *all_calls(4, 5), *random_calls(), *long_calls()]:
            self.assertEqual(crossing_in(calls), slow_crossing(calls), calls)

    def test_four_cars_in_any_order(self):
        dice = random.Random(12)
        for _ in range(2000):
            calls = tuple(dice.randrange(4) for _ in range(dice.randrange(6, 11)))
            self.assertEqual(crossing_in(calls), slow_crossing(calls), calls)

    def test_there_is_none(self):
        for calls in [(0,), (59,) * 200, FULL, FULL[::-1], *nested_calls()]:
            self.assertIsNone(crossing_in(calls))

    def test_late_ones(self):
        self.assertEqual(crossing_in((*FULL, 58, 59)), (58, 59, 60, 61))
        self.assertEqual(crossing_in((*FULL, 59, 58, 59)), (58, 59, 61, 62))
        self.assertEqual(crossing_in((5,) * 196 + (0, 59, 0, 59)), (196, 197, 198, 199))

    def test_which_cars_cross_first(self):
        self.assertEqual(crossing_in((0, 1, 0, 2, 1, 2)), (0, 1, 2, 4))
        self.assertEqual(crossing_in((0, 3, 3, 1, 2, 1, 2, 0)), (3, 4, 5, 6))
        self.assertEqual(crossing_in((0, 1, 2, 2, 1, 0, 1)), (0, 1, 5, 6))
        self.assertEqual(crossing_in((0, 1, 2, 0, 3, 3, 2)), (0, 2, 3, 6))
        self.assertEqual(crossing_in((3, 3, 0, 0, 1, 0, 0, 1)), (2, 4, 5, 7))

    def test_more_calls_of_the_first_car_follow(self):
        self.assertEqual(crossing_in((0, 1, 0, 2, 2, 0, 3, 0, 3)), (0, 6, 7, 8))
        self.assertEqual(crossing_in((0, 1, 0, 2, 0, 2, 0)), (0, 3, 4, 5))


class CyclesAndGenus(unittest.TestCase):
    def all_kinds(self):
        return [*all_calls(3, 5), *all_calls(4, 4), *random_calls(), *long_calls(), *nested_calls()]

    def test_the_number_of_cycles(self):
        for calls in self.all_kinds():
            self.assertEqual(count_cycles(calls), slow_cycles(calls))
            self.assertEqual(count_cycles(calls), len(cycles_of(calls)))

    def test_c_the_genus_is_an_integer_of_at_least_0(self):
        for calls in self.all_kinds():
            self.assertGreaterEqual(genus(calls), 0)
            self.assertIs(type(genus(calls)), int)
            self.assertEqual(slow_cycles(calls), len(calls) + 1 - len(set(calls)) - 2 * genus(calls))

    def test_c_when_the_genus_is_0(self):
        for calls in self.all_kinds():
            most = max(calls.count(car) for car in calls)
            self.assertEqual(genus(calls) == 0, most <= 2 and crossing_in(calls) is None, calls)

    def test_one_call_and_200(self):
        self.assertEqual([count_cycles((0,)), genus((0,))], [1, 0])
        self.assertEqual([count_cycles((59,) * 200), genus((59,) * 200)], [2, 99])
        self.assertEqual([count_cycles((59,) * 199), genus((59,) * 199)], [1, 99])
        self.assertEqual([count_cycles(FULL), genus(FULL)], [1, 0])
        self.assertEqual([count_cycles(FULL + FULL[::-1]), genus(FULL + FULL[::-1])], [61, 0])


class GapsOf(unittest.TestCase):
    def test_from_each_call_to_the_next_one(self):
        for calls in [*all_calls(3, 5), *random_calls(), *long_calls()]:
            gaps = {car: [] for car in sorted(set(calls))}
            twice = calls + calls
            for at, car in enumerate(calls):
                gaps[car].append(twice.index(car, at + 1) - at)
            self.assertEqual(gaps_of(calls), gaps)

    def test_the_gaps_of_a_car_add_up_to_a_day(self):
        for calls in [*all_calls(3, 5), *long_calls()]:
            for car, gaps in gaps_of(calls).items():
                self.assertEqual((sum(gaps), len(gaps)), (len(calls), calls.count(car)))

    def test_a_clear_lane_is_clear_again_one_call_after_the_gap(self):
        for calls in long_calls():
            gaps = gaps_of(calls)
            for at, car in enumerate(calls):
                self.assertEqual(next_clear(calls, at), at + gaps[car].pop(0) + 1)

    def test_the_cars_ascend(self):
        for calls in [(5, 3, 5, 59, 0), (9,), FULL[::-1], *all_calls(3, 3)]:
            self.assertEqual(list(gaps_of(calls)), sorted(set(calls)))

    def test_one_call_and_200(self):
        self.assertEqual(gaps_of((0,)), {0: [1]})
        self.assertEqual(gaps_of((59,) * 200), {59: [1] * 200})
        self.assertEqual(gaps_of((0,) + (59,) * 199), {0: [200], 59: [1] * 198 + [2]})

    def test_the_dict_and_its_lists_are_new(self):
        gaps = gaps_of(CALLS)
        gaps[1].append(7)
        gaps[0].clear()
        gaps[5] = []
        self.assertEqual(gaps_of(CALLS), {0: [4], 1: [2, 2], 2: [4]})
        again = gaps_of((0, 1, 0, 1))
        self.assertIsNot(again[0], again[1])


if __name__ == "__main__":
    unittest.main()
