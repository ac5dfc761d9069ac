"""Section 11, with the points [3] and [4]."""

import random
import unittest

from deadlane.errors import NoCalls, NoCar, NoDays, NoLane, NoOperation, NoProgram, Nothing
from deadlane.live import LiveLane
from tests.samples import (
    CALLS, Thing, all_lanes, common_wrong, levels, slow_call, slow_day, steps_in_all, wrong_calls, wrong_cars,
    wrong_lanes, wrong_live_days, wrong_operations, wrong_programs,
)

FULL = tuple(range(60))
FOREVER = 10 ** 30
PROGRAM = (0, (3, (1, 2)), 1)


def slow_operation(lane, operation):
    """The lane after an operation, call by call."""
    if operation[0] == "call":
        return slow_call(lane, operation[1])
    if operation[0] == "repeat":
        return slow_day(lane, operation[1] * operation[2])
    return slow_program(lane, operation[1])


def slow_program(lane, program):
    for item in program:
        if isinstance(item, tuple):
            for _ in range(item[0]):
                lane = slow_program(lane, item[1])
        else:
            lane = slow_call(lane, item)
    return lane


def random_operation(dice):
    cars = dice.choice([FULL, (0, 1, 2), (0, 59), (5, 6, 7, 8, 9)])
    calls = tuple(dice.choices(cars, k=dice.randrange(1, 7)))
    return dice.choice([
        ("call", dice.choice(cars)), ("call", dice.choice(cars)), ("repeat", calls, dice.randrange(1, 4)),
        ("run", (*calls, (dice.randrange(1, 4), calls[::-1]), dice.choice(cars))),
    ])


def perform(live, operation):
    """Perform an operation; return what the method returns."""
    if operation[0] == "repeat":
        return live.repeat(operation[1], days=operation[2])
    return {"call": live.call, "run": live.run}[operation[0]](operation[1])


class Examples(unittest.TestCase):
    def test_create(self):
        live = LiveLane((2, 0))
        self.assertEqual([live.lane, live.innermost, LiveLane().innermost, LiveLane.CARS], [(2, 0), 2, None, 60])
        self.assertEqual(LiveLane.of(2, 0).lane, (2, 0))

    def test_call(self):
        live = LiveLane.of(2, 0, 1)
        self.assertEqual([live.call(0), live.call(5), live.lane], [(0, 1), (), (2, 5)])

    def test_repeat(self):
        live = LiveLane.of(2)
        self.assertEqual([live.repeat(CALLS), live.repeat(CALLS, days=FOREVER)], [(1,), (1,)])

    def test_run(self):
        self.assertEqual(LiveLane().run(PROGRAM), (0, 1))

    def test_undo(self):
        live = LiveLane.of(2, 0, 1)
        left = live.call(2)
        self.assertIsNone(live.undo())
        self.assertEqual([left, live.lane], [(2, 0, 1), (2, 0, 1)])

    def test_log(self):
        live = LiveLane()
        told = [live.call(4), live.repeat((1, 2)), live.log()]
        self.assertEqual(told, [(), (4, 1, 2), [("call", 4), ("repeat", (1, 2), 1)]])

    def test_preview(self):
        live = LiveLane.of(2, 0, 1)
        self.assertEqual([live.preview(("call", 0), ("repeat", (5, 6), 3)), live.lane], [(2,), (2, 0, 1)])

    def test_has(self):
        live = LiveLane.of(2, 0)
        self.assertEqual([live.has(value) for value in [0, 1, False, None]], [True, False, False, False])

    def test_length_and_equality(self):
        live = LiveLane.of(2, 0)
        self.assertEqual([len(live), live == LiveLane((2, 0)), live == (2, 0)], [2, True, False])


class Properties(unittest.TestCase):
    def test_all_lanes(self):
        for lane in [*all_lanes([0, 1, 59]), FULL, FULL[::-1]]:
            for live in [LiveLane(lane), LiveLane(lane=lane), LiveLane.of(*lane)]:
                self.assertEqual(live.lane, lane)
                self.assertEqual(live.innermost, lane[0] if lane else None)
                self.assertEqual(len(live), len(lane))
                self.assertEqual(live.log(), [])
                self.assertIs(type(live), LiveLane)
        self.assertEqual(LiveLane().lane, ())
        self.assertEqual(LiveLane.of().lane, ())

    def test_the_class_value(self):
        self.assertEqual([LiveLane.CARS, LiveLane().CARS, LiveLane.of(3).CARS], [60, 60, 60])

    def test_they_are_not_assigned(self):
        live = LiveLane.of(2)
        with self.assertRaises(AttributeError):
            live.lane = (3,)
        with self.assertRaises(AttributeError):
            live.innermost = 3
        self.assertEqual(live.lane, (2,))

    def test_they_tell_the_present_lane(self):
        live = LiveLane()
        told = []
        for car in [3, 4, 5, 4, 3]:
            live.call(car)
            told.append((live.lane, live.innermost, len(live)))
        self.assertEqual(told, [((3,), 3, 1), ((3, 4), 3, 2), ((3, 4, 5), 3, 3), ((3,), 3, 1), ((), None, 0)])

    def test_wrong_lanes(self):
        for value in wrong_lanes():
            with self.assertRaises(NoLane):
                LiveLane(value)
            with self.assertRaises(NoLane):
                LiveLane(lane=value)

    def test_wrong_arguments_of_of(self):
        wrong = [lane for lane in wrong_lanes() if isinstance(lane, tuple)]
        self.assertGreater(len(wrong), 20)
        for arguments in [*wrong, (0, 0), (3, True), ((0,),), ([],), (59, 60), (-1,), FULL + (7,)]:
            with self.assertRaises(NoLane):
                LiveLane.of(*arguments)
        for value in wrong_cars():
            for arguments in [(value,), (value, 3), (3, value), (3, 3, value)]:
                with self.assertRaises(NoLane):
                    LiveLane.of(*arguments)


class Operations(unittest.TestCase):
    def test_calls_that_leave(self):
        for lane in all_lanes(range(4)):
            for car in range(5):
                live = LiveLane(lane)
                after = slow_call(lane, car)
                self.assertEqual(live.call(car), lane[len(after):])
                self.assertEqual(live.lane, after)
                self.assertEqual(live.log(), [("call", car)])

    def test_days_at_the_limits(self):
        for days in [1, 2, FOREVER - 1, FOREVER]:
            live = LiveLane.of(7, 2)
            self.assertEqual(live.repeat(CALLS, days=days), (7, 2, 1) if days % 2 == 0 else (7, 1))
            self.assertEqual(live.log(), [("repeat", CALLS, days)])
        for days in [0, -1, FOREVER + 1, True, False, None, "1", (1,)]:
            with self.assertRaises(NoDays):
                LiveLane.of(7, 2).repeat(CALLS, days=days)

    def test_one_day_if_nothing_is_said(self):
        live = LiveLane.of(2)
        self.assertEqual(live.repeat(CALLS), (1,))
        self.assertEqual(live.log(), [("repeat", CALLS, 1)])

    def test_longest_calls_and_programs(self):
        for calls in [(0,), (59,), (0, 59) * 100, FULL * 3]:
            self.assertEqual(LiveLane(FULL).repeat(calls, days=3), slow_day(FULL, calls * 3))
        for program in [levels(8), steps_in_all(200), FULL]:
            self.assertEqual(LiveLane.of(3, 7).run(program), slow_program((3, 7), program))
        self.assertEqual(LiveLane.of(9).run(levels(8, times=FOREVER)), (9,))

    def test_random_operations(self):
        dice = random.Random(11)
        for _ in range(150):
            lane = tuple(dice.sample(FULL, dice.randrange(0, 5)))
            live = LiveLane(lane)
            log = []
            for _ in range(12):
                operation = random_operation(dice)
                after = slow_operation(lane, operation)
                told = perform(live, operation)
                self.assertEqual(told, lane[len(after):] if operation[0] == "call" else after)
                log.append(operation)
                lane = after
                self.assertEqual((live.lane, live.log()), (lane, log))

    def test_two_hundred_operations_with_undos_among_them(self):
        dice = random.Random(12)
        live = LiveLane((0, 59, 7))
        lanes = [(0, 59, 7)]
        log = []
        for turn in range(200):
            if log and dice.random() < 0.4 or turn > 190 and log:
                self.assertIsNone(live.undo())
                log.pop()
                lanes.pop()
            else:
                operation = random_operation(dice)
                perform(live, operation)
                log.append(operation)
                lanes.append(slow_operation(lanes[-1], operation))
            self.assertEqual((live.lane, live.log()), (lanes[-1], log))

    def test_two_hundred_calls_and_no_more_than_so_many_undos(self):
        live = LiveLane.of(3)
        for turn in range(100):
            live.call(turn % 60)
        for _ in range(100):
            live.undo()
        self.assertEqual((live.lane, live.log()), ((3,), []))
        with self.assertRaises(Nothing):
            live.undo()


class Undo(unittest.TestCase):
    def test_each_operation(self):
        for operation in [("call", 2), ("call", 9), ("repeat", CALLS, FOREVER), ("run", PROGRAM), ("run", (9, 9))]:
            live = LiveLane.of(2, 0, 1)
            perform(live, operation)
            self.assertEqual(live.log(), [operation])
            self.assertIsNone(live.undo())
            self.assertEqual((live.lane, live.log()), ((2, 0, 1), []))

    def test_the_last_one_first(self):
        live = LiveLane()
        live.call(1)
        live.repeat((2, 3))
        live.run((4, 2))
        lanes = [live.lane]
        for _ in range(3):
            live.undo()
            lanes.append(live.lane)
        self.assertEqual(lanes, [(1,), (1, 2, 3), (1,), ()])

    def test_operations_after_an_undo(self):
        live = LiveLane()
        live.call(1)
        live.call(2)
        live.undo()
        live.call(3)
        self.assertEqual((live.lane, live.log()), ((1, 3), [("call", 1), ("call", 3)]))
        live.undo()
        live.undo()
        self.assertEqual((live.lane, live.log()), ((), []))

    def test_nothing_left(self):
        for lane in [(), (2, 1)]:
            live = LiveLane(lane)
            for _ in range(3):
                with self.assertRaises(Nothing):
                    live.undo()
            live.call(5)
            live.undo()
            with self.assertRaises(Nothing):
                live.undo()
            self.assertEqual((live.lane, live.log()), (lane, []))


class Wrong(unittest.TestCase):
    """Each operation that raises an error leaves the live lane as it was."""

    def assert_refused(self, kind, perform_wrong):
        live = LiveLane.of(2, 0)
        live.call(1)
        live.repeat((5, 6))
        with self.assertRaises(kind) as caught:
            perform_wrong(live)
        self.assertIs(type(caught.exception), kind)
        self.assertEqual((live.lane, live.log()), ((2, 0, 1, 5, 6), [("call", 1), ("repeat", (5, 6), 1)]))
        live.undo()
        self.assertEqual((live.lane, live.log()), ((2, 0, 1), [("call", 1)]))

    def test_operations(self):
        for value in wrong_cars():
            self.assert_refused(NoCar, lambda live: live.call(value))
        for value in wrong_calls():
            self.assert_refused(NoCalls, lambda live: live.repeat(value))
            self.assert_refused(NoCalls, lambda live: live.repeat(value, days=3))
            self.assert_refused(NoCalls, lambda live: live.repeat(value, days=0))
        for value in wrong_live_days():
            self.assert_refused(NoDays, lambda live: live.repeat(CALLS, days=value))
        for value in wrong_programs():
            self.assert_refused(NoProgram, lambda live: live.run(value))

    def test_errors_do_not_count(self):
        live = LiveLane()
        for _ in range(300):
            with self.assertRaises(NoCar):
                live.call(60)
        for car in range(60):
            live.call(car)
        self.assertEqual((live.lane, len(live.log())), (FULL, 60))


class Preview(unittest.TestCase):
    def test_no_operation(self):
        for lane in [(), (2, 0), FULL]:
            self.assertEqual(LiveLane(lane).preview(), lane)

    def test_each_operation(self):
        live = LiveLane.of(2, 0, 1)
        for operation in [("call", 2), ("call", 9), ("repeat", CALLS, 1), ("repeat", CALLS, 3), ("run", PROGRAM)]:
            self.assertEqual(live.preview(operation), slow_operation((2, 0, 1), operation))
        self.assertEqual((live.lane, live.log()), ((2, 0, 1), []))

    def test_twelve_operations(self):
        dice = random.Random(13)
        for _ in range(60):
            lane = tuple(dice.sample(FULL, dice.randrange(0, 5)))
            live = LiveLane(lane)
            live.call(30)
            before = (live.lane, live.log())
            operations = [random_operation(dice) for _ in range(12)]
            after = live.lane
            for operation in operations:
                after = slow_operation(after, operation)
            self.assertEqual(live.preview(*operations), after)
            self.assertEqual((live.lane, live.log()), before)
            live.undo()
            self.assertEqual((live.lane, live.log()), (lane, []))

    def test_a_log_is_performed_again(self):
        live = LiveLane.of(7)
        live.call(1)
        live.repeat((1, 2, 3), days=FOREVER)
        live.run((1, (FOREVER, (2, 1, 2)), 4))
        self.assertEqual(LiveLane.of(7).preview(*live.log()), live.lane)

    def assert_refused(self, kind, operations):
        live = LiveLane.of(2, 0)
        live.call(1)
        with self.assertRaises(kind) as caught:
            live.preview(*operations)
        self.assertIs(type(caught.exception), kind)
        self.assertEqual((live.lane, live.log()), ((2, 0, 1), [("call", 1)]))
        live.undo()
        self.assertEqual((live.lane, live.log()), ((2, 0), []))

    def test_arguments_that_are_no_operation(self):
        right = [("call", 3)] * 5
        for value in wrong_operations():
            for operations in [[value], [value, *right], [*right, value], [*right, value, *right], [value, value]]:
                self.assert_refused(NoOperation, operations)

    def test_forms_are_checked_before_any_operation(self):
        for wrong in [("call", 60), ("repeat", (), 1), ("repeat", CALLS, 0), ("run", ()), ("call", None)]:
            self.assert_refused(NoOperation, [wrong, ("undo",)])
            self.assert_refused(NoOperation, [wrong] * 11 + [()])
            self.assert_refused(NoOperation, [None, wrong])

    def test_errors_of_the_first_and_the_last_operation(self):
        right = [("call", 3), ("repeat", CALLS, 2), ("run", PROGRAM)]
        for kind, wrong in [
            *[(NoCar, ("call", value)) for value in wrong_cars()],
            *[(NoCalls, ("repeat", value, 1)) for value in wrong_calls()],
            *[(NoCalls, ("repeat", value, 0)) for value in wrong_calls()],
            *[(NoDays, ("repeat", CALLS, value)) for value in wrong_live_days()],
            *[(NoProgram, ("run", value)) for value in wrong_programs()],
        ]:
            self.assert_refused(kind, [wrong])
            self.assert_refused(kind, [wrong, *right])
            self.assert_refused(kind, [*right, wrong])

    def test_errors_of_operations_come_in_their_order(self):
        wrong = [(NoCar, ("call", 60)), (NoCalls, ("repeat", (), 0)), (NoDays, ("repeat", (1,), 0)),
                 (NoProgram, ("run", ()))]
        for kind, first in wrong:
            for _, second in wrong:
                self.assert_refused(kind, [("call", 1), first, ("call", 2), second])

    def test_they_do_not_count_as_operations(self):
        live = LiveLane.of(1)
        for _ in range(300):
            live.preview(("call", 1), ("call", 2))
        for _ in range(99):
            live.call(3)
        self.assertEqual((live.lane, len(live.log())), ((1, 3), 99))


class HasAndEquality(unittest.TestCase):
    def test_cars_in_the_lane(self):
        for lane in [(), (0,), (59, 0, 3), FULL]:
            live = LiveLane(lane)
            for value in range(-2, 65):
                self.assertIs(live.has(value), value in lane)

    def test_has_accepts_any_value(self):
        for value in [*wrong_cars(), (0, 1), [0], iter(()), LiveLane.of(0), LiveLane]:
            self.assertIs(LiveLane(FULL).has(value), False)

    def test_lanes_that_are_equal(self):
        lanes = [(), (0,), (1,), (0, 1), (1, 0), (0, 1, 2), FULL, FULL[::-1]]
        for one in lanes:
            for other in lanes:
                self.assertIs(LiveLane(one) == LiveLane(other), one == other)
                self.assertIs(LiveLane(one) != LiveLane(other), one != other)

    def test_the_log_does_not_matter(self):
        live = LiveLane.of(1)
        live.call(2)
        live.call(2)
        self.assertIs(live == LiveLane.of(1), True)
        self.assertIs(live != LiveLane.of(1), False)
        live.call(3)
        self.assertIs(live == LiveLane.of(1), False)
        self.assertIs(live == LiveLane.of(1, 3), True)
        self.assertIs(live == live, True)

    def test_no_other_value_is_equal(self):
        for lane in [(), (0,), (0, 1)]:
            live = LiveLane(lane)
            for value in [*common_wrong(), None, (), (0,), (0, 1), [0, 1], 0, 1, lane, "LiveLane", LiveLane]:
                self.assertIs(live == value, False)
                self.assertIs(live != value, True)
        self.assertIs(LiveLane.of(0) == Thing(), False)
        self.assertIs(LiveLane.of(0) != Thing(), True)


class Separate(unittest.TestCase):
    def test_two_live_lanes_share_nothing(self):
        for create in [LiveLane, LiveLane.of]:
            one, other = create(), create()
            one.call(3)
            self.assertEqual((other.lane, other.log()), ((), []))
            other.repeat((4, 5))
            self.assertEqual((one.lane, one.log()), ((3,), [("call", 3)]))
            one.undo()
            self.assertEqual((other.lane, other.log()), ((4, 5), [("repeat", (4, 5), 1)]))

    def test_a_changed_log_changes_nothing(self):
        live = LiveLane.of(2)
        live.call(3)
        live.call(4)
        log = live.log()
        self.assertIsNot(log, live.log())
        log.clear()
        self.assertEqual(live.log(), [("call", 3), ("call", 4)])
        live.log().append(("call", 5))
        live.log()[0] = ("call", 9)
        self.assertEqual(live.log(), [("call", 3), ("call", 4)])
        kept = live.log()
        live.undo()
        self.assertEqual(kept, [("call", 3), ("call", 4)])
        live.undo()
        self.assertEqual((live.lane, live.log()), ((2,), []))

    def test_lanes_that_were_given_out_stay(self):
        live = LiveLane.of(2, 1)
        before = live.lane
        live.call(2)
        self.assertEqual((before, live.lane), ((2, 1), ()))


if __name__ == "__main__":
    unittest.main()
