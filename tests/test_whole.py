"""Point [2], and points [3] to [14] over the whole program: its parts agree with each other."""

import random
import unittest
from itertools import islice

from deadlane.console import Console
from deadlane.counting import count_entering, count_forced, count_leaving, longest
from deadlane.crossings import count_cycles, crossing_in, gaps_of, genus
from deadlane.days import after_days, count_before, cycles_of, day_before, day_map, end_lane, period
from deadlane.lanes import after_calls, called, case_of, fixed_part, lanes_from, leaving
from deadlane.live import LiveLane
from deadlane.moments import clear_cycles, count_clear, lane_at, next_clear, nth_clear
from deadlane.plans import count_plans, fewest_calls, has_map, is_case_map, plan_for, route
from deadlane.programs import after_program, cars_of, count_calls, map_of
from deadlane.texts import read_calls, read_lane, read_program, show_lane, show_program
from tests.samples import CALLS, all_calls, all_lanes

FULL = tuple(range(60))
FOREVER = 10 ** 30


def some_days():
    """Some lanes and calls, the same ones each time; most lanes hold cars that are called and one that may not be."""
    dice = random.Random(17)
    found = [((), (0,)), (FULL, (59,)), ((59, 0), (0, 59) * 100), ((7, 8), (1, 1)), ((), FULL), (FULL[::-1], FULL)]
    for _ in range(60):
        cars = dice.sample(FULL, dice.randrange(1, 9))
        lane = tuple(dice.sample(sorted({*cars, 59 - cars[0]}), dice.randrange(len(cars))))
        found.append((lane, tuple(dice.choices(cars, k=dice.randrange(1, 16)))))
    return found


def play(lane, calls, days):
    """The lanes before each call of so many days, and the one at the end."""
    return list(islice(lanes_from(lane, calls), days * len(calls) + 1))


def written(cars):
    return " ".join([str(car) for car in cars]) or "-"


def console_with(lane, calls):
    console = Console()
    console.say(f"lane {show_lane(lane)}")
    console.say(f"calls {written(calls)}")
    return console


class Days(unittest.TestCase):
    def test_lanes_after_days(self):
        for lane, calls in some_days():
            for days in [1, 2, 5]:
                end = play(lane, calls, days)[-1]
                live = LiveLane(lane)
                self.assertEqual(live.repeat(calls, days=days), end)
                self.assertEqual(after_days(lane, calls, days=days), end)
                self.assertEqual(lane_at(lane, calls, days * len(calls)), end)
                self.assertEqual(LiveLane(lane).preview(("repeat", calls, days)), end)
                console = console_with(lane, calls)
                self.assertEqual(read_lane(console.say(f"after {days}")), end)
                self.assertEqual(read_lane(console.say(f"days {days}")), end)
                self.assertEqual(console.say("show"), show_lane(end))
                if len(calls) <= 60:
                    self.assertEqual(after_program(lane, ((days, calls),)), end)

    def test_lanes_after_very_many_days(self):
        for lane, calls in some_days():
            for days in [FOREVER - 1, FOREVER]:
                end = after_days(lane, calls, days=days)
                self.assertEqual(LiveLane(lane).repeat(calls, days=days), end)
                self.assertEqual(lane_at(lane, calls, days * len(calls)), end)
                self.assertEqual(console_with(lane, calls).say(f"days {days}"), show_lane(end))
                again = after_days(end, calls, days=period(lane, calls))
                self.assertEqual(again, end)
                if len(calls) <= 60:
                    self.assertEqual(LiveLane(lane).run(((days, calls),)), end)

    def test_calls_one_by_one(self):
        for lane, calls in some_days():
            live = LiveLane(lane)
            console = console_with(lane, calls)
            for before, after, car in zip(play(lane, calls, 2), play(lane, calls, 2)[1:], calls * 2):
                self.assertEqual(called(before, car), after)
                self.assertEqual(live.call(car), leaving(before, car))
                self.assertEqual(console.say(f"call {car}"), show_lane(leaving(before, car)))
                self.assertEqual((live.lane, len(live)), (after, len(after)))
                self.assertEqual(live, LiveLane(after))

    def test_counts_are_those_of_the_calls(self):
        for lane, calls in some_days():
            for days in [0, 1, 3]:
                lanes = play(lane, calls, days)
                steps = list(zip(lanes, lanes[1:], calls * days))
                self.assertEqual(longest(lane, calls, days=days), max(map(len, lanes)))
                entering = [car for before, _, car in steps if car not in before]
                self.assertEqual(count_entering(lane, calls, days=days), len(entering))
                left = [leaving(before, car) for before, _, car in steps]
                self.assertEqual(count_leaving(lane, calls, days=days), sum(map(len, left)))
                for car in {*lane, *calls}:
                    forced = sum(car in gone[1:] for gone in left)
                    self.assertEqual(count_forced(lane, calls, car, days=days), forced)


class MainResults(unittest.TestCase):
    def test_the_end_of_a_day_depends_on_the_innermost_car_alone(self):
        for lane, calls in some_days():
            fixed, case = fixed_part(lane, calls), case_of(lane, calls)
            self.assertEqual(after_calls(lane, calls), (*fixed, *end_lane(calls, case)))
        for calls in all_calls(3, 4):
            for lane in all_lanes(set(calls)):
                self.assertEqual(after_calls(lane, calls), end_lane(calls, lane[0] if lane else None))

    def test_as_many_end_lanes_as_cases(self):
        for _, calls in some_days():
            cars = sorted(set(calls))
            ends = [end_lane(calls, case) for case in [None, *cars]]
            self.assertEqual(len(set(ends)), len(cars) + 1)
            self.assertEqual(sum(map(len, cycles_of(calls))), len(cars) + 1)
            for end in ends:
                self.assertIn(day_before(end, calls), ends)
                self.assertEqual(after_calls(day_before(end, calls), calls), end)
                self.assertEqual(after_days(end, calls, days=period(end, calls)), end)
            if len(cars) < 6:
                self.assertEqual(sum(count_before(end, calls) for end in ends), len(list(all_lanes(cars))))

    def test_calls_are_exchanges(self):
        for _, calls in some_days():
            leads = day_map(calls)
            self.assertIs(is_case_map(leads), True)
            self.assertIs(has_map(calls, leads), True)
            self.assertLessEqual(fewest_calls(leads), len(calls))
            if plan_for(leads):
                self.assertIs(has_map(plan_for(leads), leads), True)
            if len(calls) <= 60:
                self.assertEqual(map_of(calls), leads)

    def test_the_number_of_cycles(self):
        for calls in [*all_calls(3, 5), *[calls for _, calls in some_days()]]:
            cars = len(set(calls))
            self.assertEqual(count_cycles(calls), len(calls) + 1 - cars - 2 * genus(calls))
            self.assertGreaterEqual(genus(calls), 0)
            apart = all(calls.count(car) <= 2 for car in calls) and crossing_in(calls) is None
            self.assertIs(genus(calls) == 0, apart)

    def test_the_lane_is_empty_again_after_the_next_call_of_the_same_car(self):
        for _, calls in some_days():
            gaps = gaps_of(calls)
            for moment, car in enumerate(calls):
                gap = gaps[car][calls[:moment].count(car)]
                self.assertEqual(next_clear(calls, moment), moment + gap + 1)
                lanes = play((), calls[moment:] + calls[:moment], 2)[:gap + 2]
                self.assertEqual([at for at, lane in enumerate(lanes) if not lane], [0, gap + 1])

    def test_clear_moments(self):
        for lane, calls in some_days():
            fixed = fixed_part(lane, calls)
            first = nth_clear(lane, calls, 0)
            self.assertEqual(lane_at(lane, calls, first), fixed)
            second = nth_clear(lane, calls, 1)
            self.assertEqual(next_clear(calls, first), second)
            self.assertEqual([count_clear(lane, calls, moment) for moment in [first, first + 1, second + 1]], [0, 1, 2])
            together = [cycle for cycle in clear_cycles(calls) if first % len(calls) in cycle]
            self.assertEqual([second % len(calls) in cycle for cycle in together], [True])
            console = console_with(lane, calls)
            for index in [0, 1, 7, FOREVER]:
                self.assertEqual(console.say(f"clear {index}"), str(nth_clear(lane, calls, index)))


class Plans(unittest.TestCase):
    def test_routes_are_performed(self):
        lanes = [*all_lanes([0, 1, 59]), FULL, FULL[:30], (59, *FULL[:7])]
        for lane in lanes:
            console = Console()
            console.say(f"lane {show_lane(lane)}")
            for target in lanes[::3]:
                live = LiveLane(lane)
                for car in route(lane, target):
                    live.call(car)
                self.assertEqual(live.lane, target)
                self.assertEqual(console.say(f"route {show_lane(target)}"), written(route(lane, target)))
                if target != lane:
                    self.assertEqual(live.undo(), None)
                    self.assertEqual(LiveLane(lane).preview(*live.log()), live.lane)

    def test_plans_of_day_maps(self):
        for calls in all_calls(3, 4):
            leads = day_map(calls)
            plan = plan_for(leads)
            self.assertEqual(len(plan), fewest_calls(leads))
            for case in leads:
                lane = () if case is None else (case,)
                for car in plan:
                    lane = called(lane, car)
                self.assertEqual(lane[0] if lane else None, leads[case])
            counts = [count_plans(leads, size=size) for size in range(len(plan) + 1)]
            self.assertEqual([count > 0 for count in counts], [False] * len(plan) + [True])


class Programs(unittest.TestCase):
    def test_programs_texts_and_live_lanes(self):
        for lane, calls in some_days():
            program = (*calls[:20], (FOREVER, (*calls[:10], (7, calls[:5]))), calls[0])
            after = after_program(lane, program)
            self.assertEqual(read_program(show_program(program)), program)
            self.assertEqual(LiveLane(lane).run(program), after)
            console = console_with(lane, calls)
            self.assertEqual(console.say(f"run {show_program(program)}"), show_lane(after))
            live = LiveLane(lane)
            for part in [program[:-2], program[-2:]]:
                live.run(part)
            self.assertEqual(live.lane, after)
            self.assertEqual(cars_of(program), sorted({*calls[:20]}))
            repeated = len(calls[:10]) + 7 * len(calls[:5])
            self.assertEqual(count_calls(program), len(calls[:20]) + FOREVER * repeated + 1)

    def test_texts_of_calls_are_those_of_programs_without_repetitions(self):
        for _, calls in some_days():
            if len(calls) <= 60:
                self.assertEqual(read_program(written(calls)), calls)
                self.assertEqual(show_program(calls), written(calls))
            self.assertEqual(read_calls(written(calls)), calls)


class Rows(unittest.TestCase):
    def test_what_is_told_of_kept_calls(self):
        for lane, calls in some_days():
            console = console_with(lane, calls)
            leads = [word.split(">") for word in console.say("map").split(" ")]
            cases = {None if key == "-" else int(key): None if led == "-" else int(led) for key, led in leads}
            self.assertEqual(list(cases.items()), list(day_map(calls).items()))
            self.assertEqual(console.say("genus"), str(genus(calls)))
            self.assertEqual(console.say("period"), str(period(lane, calls)))


class Results(unittest.TestCase):
    def test_returned_values_may_be_passed_back(self):
        live = LiveLane.of(2, 0)
        live.repeat(CALLS, days=2)
        for operation in live.log():
            self.assertEqual(LiveLane.of(2, 0).preview(operation), live.lane)
        self.assertEqual(LiveLane(live.lane), live)
        self.assertEqual(LiveLane.of(*live.lane), live)
        self.assertEqual(plan_for(day_map(CALLS)), plan_for(day_map(CALLS)))
        self.assertIs(has_map(CALLS, map_of(CALLS)), True)

    def test_the_order_of_the_items_of_a_dict_does_not_matter(self):
        for _, calls in some_days():
            leads = day_map(calls)
            turned = dict(reversed(list(leads.items())))
            self.assertEqual(plan_for(turned), plan_for(leads))
            self.assertEqual(fewest_calls(turned), fewest_calls(leads))
            self.assertIs(has_map(calls, turned), True)
            if len(leads) < 8:
                self.assertEqual(count_plans(turned, size=9), count_plans(leads, size=9))


if __name__ == "__main__":
    unittest.main()
