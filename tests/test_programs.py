"""Section 9, with the point [13]."""

import random
import unittest

from deadlane.days import after_days, day_map
from deadlane.plans import has_map, is_case_map
from deadlane.programs import after_program, cars_of, count_calls, is_program, map_of
from tests.samples import (
    all_calls, all_lanes, levels, long_calls, many_times, slow_day, slow_map, steps_in_all, wrong_programs,
)

FULL = tuple(range(60))
FOREVER = 10 ** 30
PROGRAM = (0, (3, (1, 2)), 1)


def unrolled(program):
    """The calls of a program, one after the other."""
    calls = []
    for item in program:
        if isinstance(item, tuple):
            calls.extend(unrolled(item[1]) * item[0])
        else:
            calls.append(item)
    return calls


def random_programs(times, cars, depth, count):
    """Some programs with one of these numbers of times at each repetition, the same ones each time."""
    dice = random.Random(14)

    def part(depth):
        items = []
        for _ in range(dice.randrange(1, 5)):
            if depth > 1 and dice.random() < 0.4:
                items.append((dice.choice(times), part(depth - 1)))
            else:
                items.append(dice.choice(cars))
        return tuple(items)

    return [part(depth) for _ in range(count)]


def with_times(program, times):
    """The program with this number of times at each repetition."""
    return tuple((times, with_times(item[1], times)) if isinstance(item, tuple) else item for item in program)


class Examples(unittest.TestCase):
    def test_is_program(self):
        self.assertEqual([is_program(PROGRAM), is_program(((0, (1,)),)), is_program(())], [True, False, False])

    def test_count_calls_and_cars_of(self):
        self.assertEqual([count_calls(PROGRAM), cars_of(PROGRAM)], [8, [0, 1, 2]])

    def test_after_program(self):
        program = ((10 ** 30, (1, 2, 0, (5, (2,)))), 4)
        self.assertEqual([after_program((), PROGRAM), after_program((9,), program)], [(0, 1), (9, 4)])

    def test_map_of(self):
        maps = [map_of(PROGRAM), map_of(((2, (4,)),))]
        self.assertEqual(maps, [{None: 0, 0: 1, 1: None, 2: 2}, {None: None, 4: 4}])
        self.assertEqual(str(maps[0]), "{None: 0, 0: 1, 1: None, 2: 2}")


class IsProgram(unittest.TestCase):
    def test_programs(self):
        programs = [
            (0,), (59,), (0, 0), FULL, (7,) * 60, ((1, (0,)),), ((FOREVER, (59,)),), ((2, (0,)), (3, (0,))), (2, 0),
            (0, (2, (1, (3, (2, 2)), 1)), (4, (0,))), PROGRAM, levels(8), levels(8, times=FOREVER), steps_in_all(200),
            (levels(1)[0], (5, levels(7))), ((1, FULL), (1, FULL), (1, FULL)), (1, (1, (1, (1, (1,))))),
        ]
        for program in programs:
            with self.subTest(program=program):
                self.assertIs(is_program(program), True)

    def test_no_programs(self):
        for at, value in enumerate(wrong_programs()):
            with self.subTest(at=at):
                self.assertIs(is_program(value), False)

    def test_sizes_and_depths_at_the_limits(self):
        self.assertEqual([is_program((4,) * size) for size in [0, 1, 60, 61]], [False, True, True, False])
        self.assertEqual([is_program(((2, (4,) * size),)) for size in [0, 1, 60, 61]], [False, True, True, False])
        self.assertEqual([is_program(steps_in_all(count)) for count in [187, 199, 200, 201]], [True] * 3 + [False])
        self.assertEqual([is_program(levels(depth)) for depth in [1, 7, 8, 9, 10]], [True] * 3 + [False] * 2)
        times = [-1, 0, 1, FOREVER, FOREVER + 1, True, False]
        self.assertEqual([is_program(((count, (4,)),)) for count in times], [False] * 2 + [True] * 2 + [False] * 3)

    def test_the_number_of_steps_is_that_without_repetitions(self):
        half = (FOREVER, (0,) * 49)
        self.assertIs(is_program((half,) * 4), True)
        self.assertIs(is_program((half, half, half, (2, (0,) * 50))), False)

    def test_values_with_many_times_the_same_tuple(self):
        self.assertIs(is_program(many_times()), False)


class Small(unittest.TestCase):
    """All functions, held against the calls one after the other."""

    def assert_plays(self, program, lanes):
        calls = unrolled(program)
        self.assertIs(is_program(program), True)
        self.assertEqual(count_calls(program), len(calls))
        self.assertEqual(cars_of(program), sorted(set(calls)))
        self.assertEqual(repr(map_of(program)), repr(slow_map(calls)))
        for lane in lanes:
            self.assertEqual(after_program(lane, program), slow_day(lane, calls))

    def test_without_repetitions(self):
        for calls in all_calls(3, 4):
            self.assert_plays(calls, all_lanes(range(3)))
        self.assert_plays(FULL, [(), FULL, FULL[::-1], (59, 0, 7)])
        self.assert_plays((59,) * 60, [(), FULL, FULL[::-1], (59, 0, 7)])

    def test_one_repetition(self):
        for calls in all_calls(3, 3):
            for times in [1, 2, 3, 7]:
                self.assert_plays(((times, calls),), all_lanes(range(3)))
                self.assert_plays((1, (times, calls), 2), [(), (0,), (3, 1), (5, 2, 6), (2, 1, 0)])

    def test_many_programs(self):
        for program in random_programs([1, 2, 3], [0, 1, 2, 59], 4, 150):
            self.assert_plays(program, [(), (0,), (59, 7), (7, 59, 1), (7, 8), (2, 1, 0), (8, 0, 7, 2), FULL])

    def test_many_cars(self):
        for program in random_programs([1, 2, 5], FULL, 4, 150):
            self.assert_plays(program, [(), FULL, FULL[::-1], FULL[20:], (59, 0, 58)])

    def test_the_longest_program(self):
        self.assert_plays(steps_in_all(200), [(), FULL, (7, 3), (3, 7)])
        self.assert_plays(levels(8), [(), (0,), (5, 0, 6)])


class Large(unittest.TestCase):
    def test_repetitions_of_calls_are_days(self):
        for calls in [*all_calls(3, 3), *[calls[:60] for calls in long_calls()]]:
            for lane in [(), (0,), (7, 2, 1), (58, 0, 57, 12)]:
                for times in [1, 2, FOREVER - 1, FOREVER]:
                    self.assertEqual(after_program(lane, ((times, calls),)), after_days(lane, calls, days=times))
            self.assertEqual(map_of(calls), day_map(calls))

    def test_10_to_the_30_repetitions_on_every_level(self):
        # All cycles of at most three cars and None have a length that divides 12, so 4 repetitions do the same.
        self.assertEqual(FOREVER % 12, 4)
        for program in random_programs([FOREVER], [0, 1, 59], 5, 150):
            few = unrolled(with_times(program, 4))
            self.assertEqual(map_of(program), slow_map(few))
            for lane in [(), (0,), (59, 1), (7, 59, 1), (8, 0, 7, 1)]:
                self.assertEqual(after_program(lane, program), slow_day(lane, few))

    def test_eight_levels_of_10_to_the_30_repetitions(self):
        program = (0, 1)
        for step in [59, 0, 1, 59, 59, 0, 1]:
            program = (step, (FOREVER, program), step)
        few = unrolled(with_times(program, 4))
        self.assertEqual(map_of(program), slow_map(few))
        for lane in [(), (0,), (1,), (59,), (7, 1, 59)]:
            self.assertEqual(after_program(lane, program), slow_day(lane, few))
        count = 2
        for _ in range(7):
            count = count * FOREVER + 2
        self.assertEqual(count_calls(program), count)

    def test_counts_on_every_level(self):
        self.assertEqual(count_calls(levels(8, times=FOREVER)), 10 ** 210)
        self.assertEqual(count_calls(((FOREVER, (1, 2)), 3, (5, (4,)))), 2 * 10 ** 30 + 6)

    def test_a_cycle_of_61_cases(self):
        self.assertEqual(after_program((), ((61, FULL),)), ())
        self.assertEqual(after_program((), ((FOREVER, FULL),)), FULL[FOREVER % 61 - 1:])
        self.assertEqual(after_program((), ((FOREVER, ((61, FULL),)), 3)), (3,))
        self.assertEqual(map_of(((61, FULL),)), {None: None, **{car: car for car in FULL}})

    def test_the_fixed_part_stays(self):
        for program in random_programs([1, 2, FOREVER], [0, 1, 2], 4, 60):
            for lane in [(), (0,), (2, 1), (1, 5, 0)]:
                self.assertEqual(after_program((7, 59, *lane), program), (7, 59, *after_program(lane, program)))
        self.assertEqual(after_program((7, 59), ((FOREVER, (1, 1)),)), (7, 59))


class Results(unittest.TestCase):
    def test_the_map_is_a_case_map_with_the_cars_as_keys(self):
        for program in random_programs([1, 2, FOREVER], [5, 3, 0, 59], 4, 60):
            self.assertIs(is_case_map(map_of(program)), True)
            self.assertEqual(list(map_of(program)), [None, *cars_of(program)])

    def test_calls_have_the_map(self):
        for program in random_programs([1, 2], [5, 3, 0, 59], 4, 60):
            if count_calls(program) <= 200:
                self.assertIs(has_map(tuple(unrolled(program)), map_of(program)), True)

    def test_lists_and_dicts_are_new(self):
        cars_of(PROGRAM).append(5)
        map_of(PROGRAM).clear()
        self.assertEqual(cars_of(PROGRAM), [0, 1, 2])
        self.assertEqual(map_of(PROGRAM), {None: 0, 0: 1, 1: None, 2: 2})
        self.assertIsNot(cars_of(PROGRAM), cars_of(PROGRAM))
        self.assertIsNot(map_of(PROGRAM), map_of(PROGRAM))


if __name__ == "__main__":
    unittest.main()
