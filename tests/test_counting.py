"""Section 10, with the points [6] to [8]."""

import random
import unittest

from deadlane.counting import count_entering, count_forced, count_leaving, longest
from deadlane.days import after_days
from tests.samples import CALLS, all_calls, all_lanes, long_calls, slow_call, slow_count

FULL = tuple(range(60))
FOREVER = 10 ** 30


class Examples(unittest.TestCase):
    def test_count_entering_and_count_leaving(self):
        self.assertEqual(count_entering((), CALLS, days=2), 5)
        self.assertEqual(count_leaving((), CALLS, days=2), 5)
        self.assertEqual(count_leaving((), CALLS, days=FOREVER), 2500000000000000000000000000000)

    def test_count_forced(self):
        self.assertEqual([count_forced((), CALLS, car, days=2) for car in [0, 1, 2, 3]], [0, 0, 2, 0])

    def test_longest(self):
        told = [longest((), CALLS, days=0), longest((), CALLS, days=1), longest((7,), CALLS, days=FOREVER)]
        self.assertEqual(told, [0, 3, 4])


class Model(unittest.TestCase):
    """The model of the tests itself, held against days that are all played."""

    def test_rounds_of_days(self):
        for calls in [CALLS, (0, 1, 2), (5, 0, 5), (0, 1, 0, 2, 1)]:
            for lane in [(), (2, 0), (7, 1, 2), (8,)]:
                for days in range(14):
                    entering = leaving = 0
                    now = lane
                    for car in calls * days:
                        after = slow_call(now, car)
                        entering += len(after) > len(now)
                        leaving += max(len(now) - len(after), 0)
                        now = after
                    self.assertEqual(slow_count(lane, calls, days)[:2], (entering, leaving))


class Counting(unittest.TestCase):
    def assert_counted(self, lane, calls, days, cars):
        entering, leaving, forced, most = slow_count(lane, calls, days)
        with self.subTest(lane=lane, calls=calls, days=days):
            self.assertEqual(count_entering(lane, calls, days=days), entering)
            self.assertEqual(count_leaving(lane, calls, days=days), leaving)
            self.assertEqual(longest(lane, calls, days=days), most)
            for car in cars:
                self.assertEqual(count_forced(lane, calls, car, days=days), forced.get(car, 0))

    def test_all_small_calls_and_lanes(self):
        for calls in all_calls(3, 4):
            for lane in all_lanes(range(3)):
                for days in [0, 1, 2, 5]:
                    self.assert_counted(lane, calls, days, range(3))

    def test_all_numbers_of_days(self):
        for calls in [CALLS, (0, 1, 2, 3), (0, 1, 0, 2, 1, 3, 0), (3, 3), (2, 1, 0, 1, 2, 2), (4, 0, 1, 2, 3, 1, 0)]:
            for lane in [(), (0,), (2, 1), (7, 3, 8, 0), (9, 8)]:
                for days in range(26):
                    self.assert_counted(lane, calls, days, [0, 1, 2, 3, 7, 8, 9])

    def test_cars_that_are_not_called(self):
        for calls in all_calls(2, 4):
            for lane in [(7,), (7, 8), (7, 0), (0, 7), (7, 1, 8, 0), (1, 7, 0, 8), (0, 7, 8, 1), (58, 59)]:
                for days in [0, 1, 2, 3, FOREVER]:
                    self.assert_counted(lane, calls, days, [0, 1, 7, 8, 58, 59])

    def test_random_calls(self):
        dice = random.Random(10)
        for _ in range(400):
            cars = dice.sample(FULL, dice.randrange(1, 12))
            calls = tuple(dice.choices(cars, k=dice.randrange(1, 40)))
            lane = tuple(dice.sample(FULL, dice.choice([0, 1, 2, 5, 60])))
            days = dice.choice([0, 1, 2, 3, 7, 10 ** 6, FOREVER - 1, FOREVER])
            self.assert_counted(lane, calls, days, [*cars, 0, 59])

    def test_long_calls(self):
        for calls in [*long_calls(), FULL * 3 + FULL[:20]]:
            for lane, days in [((), FOREVER), (FULL, FOREVER - 7), (FULL[::-1], 1), ((59, 0, 58), 2), ((), 0)]:
                self.assert_counted(lane, calls, days, [0, 1, 30, 58, 59])

    def test_one_call(self):
        for car in [0, 59]:
            self.assert_counted((), (car,), FOREVER, FULL)
            self.assert_counted((car,), (car,), FOREVER - 1, FULL)
            self.assert_counted(FULL, (car,), FOREVER, FULL)
        self.assertEqual(count_entering((), (59,), days=FOREVER), FOREVER // 2)
        self.assertEqual(count_leaving((), (59,), days=FOREVER - 1), FOREVER // 2 - 1)
        self.assertEqual(count_forced((0, 59), (0,), 59, days=FOREVER), 1)
        self.assertEqual(longest((5,), (59,), days=1), 2)

    def test_no_day(self):
        for lane in [(), (0,), (7, 1, 0), FULL]:
            self.assertEqual(count_entering(lane, CALLS, days=0), 0)
            self.assertEqual(count_leaving(lane, CALLS, days=0), 0)
            self.assertEqual(longest(lane, CALLS, days=0), len(lane))
            for car in FULL:
                self.assertEqual(count_forced(lane, CALLS, car, days=0), 0)

    def test_the_begin_counts_for_the_longest(self):
        self.assertEqual(longest((0, 7, 8, 9, 1), CALLS, days=FOREVER), 5)
        self.assertEqual(longest((7, 8, 9), (0,), days=FOREVER), 4)
        self.assertEqual(longest(FULL, FULL, days=FOREVER), 60)

    def test_each_car_that_leaves_is_counted(self):
        self.assertEqual(count_leaving((1, 5, 6, 7), (1,), days=1), 4)
        self.assertEqual(count_leaving((1, 5, 6, 7), (2, 1), days=1), 5)
        self.assertEqual([count_forced((1, 5, 6, 7), (1,), car, days=1) for car in [1, 5, 6, 7, 0]], [0, 1, 1, 1, 0])


class Together(unittest.TestCase):
    def test_who_was_there_or_came_in_left_or_is_there(self):
        for calls in [*all_calls(3, 4), *long_calls()]:
            for lane in [(), (2, 1), (7, 0, 8, 2), FULL]:
                for days in [0, 1, 3, FOREVER]:
                    came = len(lane) + count_entering(lane, calls, days=days)
                    there = len(after_days(lane, calls, days=days))
                    self.assertEqual(count_leaving(lane, calls, days=days), came - there)

    def test_a_car_enters_leaves_at_its_own_call_or_is_forced(self):
        for calls in long_calls():
            for lane in [(), (7, 0, 8, 2), FULL]:
                for days in [1, 2, FOREVER]:
                    own = days * len(calls) - count_entering(lane, calls, days=days)
                    forced = sum(count_forced(lane, calls, car, days=days) for car in FULL)
                    self.assertEqual(count_leaving(lane, calls, days=days), own + forced)

    def test_days_one_after_the_other(self):
        for calls in [CALLS, *long_calls()]:
            for lane in [(), (7, 0, 8, 2)]:
                for first, more in [(0, 1), (1, 1), (3, 10 ** 29), (10 ** 29, 5)]:
                    later = after_days(lane, calls, days=first)
                    for count in [count_entering, count_leaving]:
                        sum_of_both = count(lane, calls, days=first) + count(later, calls, days=more)
                        self.assertEqual(count(lane, calls, days=first + more), sum_of_both)
                    both = [longest(lane, calls, days=first), longest(later, calls, days=more)]
                    self.assertEqual(longest(lane, calls, days=first + more), max(both))


if __name__ == "__main__":
    unittest.main()
