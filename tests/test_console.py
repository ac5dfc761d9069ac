"""Section 13."""

import random
import unittest

from deadlane.console import Console
from deadlane.errors import LaneError, NoCar, NoDays, NoIndex, NoRow, NoText, Nothing
from tests.samples import (
    long_calls, slow_call, slow_day, slow_map, wrong_lane_texts, wrong_program_texts, wrong_rows, wrong_texts,
)

FULL = tuple(range(60))
FOREVER = 10 ** 30
MOST = 10 ** 31 - 1

# One right row for each form.
ROWS = [
    "lane 2", "calls 0 1 2 1", "call 1", "days 1", "run 5 2*(3 4)", "undo", "show", "after 1", "clear 0", "period",
    "map", "genus", "route 4 2",
]
WITHOUT_LANE = ["lane", "calls", "map", "genus"]
WITH_CALLS = ["days", "after", "clear", "period", "map", "genus"]


def written(cars):
    return " ".join([str(car) for car in cars]) or "-"


def console_with(*rows):
    console = Console()
    for row in rows:
        console.say(row)
    return console


class Examples(unittest.TestCase):
    def test_rows(self):
        console = Console()
        opened = [console.say("lane 2"), console.say("calls 0 1 2 1")]
        self.assertEqual(opened, ["ok", "ok"])
        rows = [
            "map", "genus", "period", "days 1", "after 1", "clear 0", "call 1", "route 4 2", "run 5 2*(3 4)", "show",
        ]
        told = [console.say(row) for row in rows]
        self.assertEqual(told, ["->0 0>- 1>2 2>1", "0", "2", "1", "2 1", "2", "1", "4 2", "5 4", "5 4"])


class Rows(unittest.TestCase):
    def assert_says(self, console, **told):
        for word, answer in told.items():
            self.assertEqual(console.say(word), answer)

    def test_lane(self):
        console = Console()
        for lane in [(), (0,), (59, 0, 10), FULL]:
            self.assertEqual(console.say(f"lane {written(lane)}"), "ok")
            self.assertEqual(console.say("show"), written(lane))

    def test_a_new_lane_leaves_the_calls(self):
        console = console_with("lane 2", "calls 0 1 2 1", "call 5", "lane 7 2")
        self.assert_says(console, show="7 2", map="->0 0>- 1>2 2>1", period="2")
        self.assertEqual(console.say("days 2"), "7 2 1")
        console.say("undo")
        with self.assertRaises(Nothing):
            console.say("undo")
        self.assert_says(console, show="7 2")

    def test_new_calls_leave_the_lane(self):
        console = console_with("lane 2", "calls 0 1 2 1", "call 5", "calls 59")
        self.assert_says(console, show="2 5", map="->59 59>-", genus="0", period="2")
        self.assertEqual(console.say("days 1"), "2 5 59")
        self.assert_says(console, undo="ok", show="2 5")
        self.assert_says(console, undo="ok", show="2")

    def test_calls(self):
        for calls in [(0,), (59,) * 200, *long_calls()]:
            console = Console()
            self.assertEqual(console.say(f"calls {written(calls)}"), "ok")
            leads = slow_map(calls)
            self.assertEqual(console.say("map"), " ".join([
                f"{'-' if case is None else case}>{'-' if led is None else led}" for case, led in leads.items()
            ]))

    def test_call(self):
        console = console_with("lane 7 2 0 1")
        rows = ["call 2", "call 9", "call 7", "call 59", "call 0", "show"]
        self.assertEqual([console.say(row) for row in rows], ["2 0 1", "-", "7 9", "-", "-", "59 0"])

    def test_days_and_after(self):
        console = console_with("lane 7 2", "calls 0 1 2 1")
        told = [console.say(f"after {days}") for days in [0, 1, 2, 3, FOREVER]]
        self.assertEqual(told, ["7 2", "7 1", "7 2 1", "7 1", "7 2 1"])
        self.assertEqual(console.say("show"), "7 2")
        self.assertEqual(console.say(f"days {FOREVER}"), "7 2 1")
        self.assertEqual([console.say("days 1"), console.say("show")], ["7 1", "7 1"])
        self.assertEqual(console.say("after 0"), "7 1")
        self.assertEqual(console_with("lane -", "calls 5 5").say("days 1"), "-")
        self.assertEqual(console_with("lane 5", "calls 5").say("after 1"), "-")

    def test_run(self):
        console = console_with("lane 9")
        self.assertEqual(console.say(f"run {FOREVER}*(1 2 0 5*(2)) 4"), "9 4")
        self.assertEqual(console.say("run 9"), "-")
        self.assert_says(console, undo="ok", show="9 4")

    def test_undo(self):
        console = console_with("lane 2", "calls 0 1 2 1", "call 5", "days 3", "run 1 2*(3 4)")
        told = []
        for _ in range(3):
            self.assertEqual(console.say("undo"), "ok")
            told.append(console.say("show"))
        self.assertEqual(told, ["1", "2 5", "2"])
        with self.assertRaises(Nothing):
            console.say("undo")

    def test_only_operations_are_undone(self):
        console = console_with("lane 2", "calls 0 1 2 1", "call 5")
        for row in ["show", "after 1", "clear 0", "period", "map", "genus", "route 4 2", "calls 1 2"]:
            console.say(row)
        self.assert_says(console, undo="ok", show="2")

    def test_clear(self):
        console = console_with("lane -", "calls 0 1 2 1")
        told = [console.say(f"clear {index}") for index in [0, 1, 2, 10 ** 30]]
        self.assertEqual(told, ["0", "5", "8", "4" + "0" * 30])
        console.say("lane 2")
        self.assertEqual(console.say("clear 0"), "3")
        console.say("call 7")
        self.assertEqual(console.say("clear 0"), "3")
        console.say("lane 8")
        self.assertEqual(console.say("clear 0"), "0")

    def test_period_and_genus(self):
        console = console_with("lane 7", f"calls {written(FULL)}")
        self.assert_says(console, period="61", genus="0")
        console = console_with("lane 7", "calls 0 1 0 1")
        self.assert_says(console, period="3", genus="1")

    def test_route(self):
        console = console_with("lane 0 1 2")
        told = [console.say(f"route {text}") for text in ["0 3", "0 1 2", "-", "0", "2 1 0", "0 1 2 59", "1 0"]]
        self.assertEqual(told, ["1 3", "-", "0", "1", "0 2 1 0", "59", "0 1 0"])
        self.assert_says(console, show="0 1 2")
        self.assertEqual(console_with("lane -").say("route -"), "-")

    def test_returned_texts_are_strings(self):
        console = console_with(*ROWS[:2])
        for row in [*ROWS[:5], "undo", *ROWS[5:]]:
            self.assertIs(type(console.say(row)), str)


class Numbers(unittest.TestCase):
    def test_of_31_and_of_32_digits(self):
        console = console_with("lane 2", "calls 0 1 2 1")
        for row, kind in [("call", NoCar), ("days", NoDays), ("after", NoDays), ("clear", NoIndex)]:
            for number in [MOST, 10 ** 30 + 1, int("1" * 31)]:
                with self.assertRaises(kind) as caught:
                    console.say(f"{row} {number}")
                self.assertIs(type(caught.exception), kind)
            for number in ["1" * 32, "9" * 32, "0" * 31, "0" * 32, "0" + "1" * 30, "1" + "0" * 31, ""]:
                with self.assertRaises(NoRow):
                    console.say(f"{row} {number}")
        self.assertEqual(console.say(f"after {FOREVER}"), "2 1")

    def test_just_out_of_range(self):
        console = console_with("lane 2", "calls 0 1 2 1")
        for row, kind in [("days 0", NoDays), ("call 60", NoCar), ("call 61", NoCar)]:
            with self.assertRaises(kind):
                console.say(row)
        told = [console.say(row) for row in ["after 0", "clear 0", "call 0", "call 59", "show"]]
        self.assertEqual(told, ["2", "3", "-", "-", "2 0 59"])


class Refused(unittest.TestCase):
    """Each row that raises an error leaves the console as it was."""

    def setUp(self):
        self.console = console_with("lane 2 0", "calls 0 1 2 1", "call 5")

    def assert_refused(self, kind, row):
        with self.assertRaises(LaneError) as caught:
            self.console.say(row)
        self.assertIs(type(caught.exception), kind)
        told = [self.console.say(right) for right in ["show", "map", "undo", "show", "call 5"]]
        self.assertEqual(told, ["2 0 5", "->0 0>- 1>2 2>1", "ok", "2 0", "-"])

    def test_no_rows(self):
        for at, row in enumerate(wrong_rows()):
            with self.subTest(at=at):
                self.assert_refused(NoRow, row)

    def test_forms_that_differ_by_a_space_or_a_newline(self):
        for row in ROWS:
            for at in range(len(row) + 1):
                self.assert_refused(NoRow, row[:at] + "\n" + row[at:])
            for other in [" " + row, row.upper(), row[1:], "x" + row, row.replace(" ", "\t"), row.replace(" ", "")]:
                if other != row:
                    self.assert_refused(NoRow, other)
        for row in ["call 1", "days 1", "after 1", "clear 0", "undo", "show", "period", "map", "genus"]:
            for other in [row + " ", row + " 1", row.replace(" ", "  ")]:
                if other != row:
                    self.assert_refused(NoRow, other)
        for row in ["lane 2", "calls 0 1 2 1", "run 5 2*(3 4)", "route 4 2"]:
            for other in [row + " ", row.replace(" ", "  "), row.replace(" ", "  ", 1), row + " x", row + ","]:
                self.assert_refused(NoText, other)

    def test_empty_texts(self):
        for word in ["lane", "calls", "run", "route"]:
            self.assert_refused(NoRow, word)
            self.assert_refused(NoText, f"{word} ")
            self.assert_refused(NoText, f"{word}  ")

    def test_no_texts(self):
        def strings(values):
            return [value for value in values if isinstance(value, str)]

        for word, values in [
            ("lane", wrong_lane_texts()), ("route", wrong_lane_texts()), ("run", wrong_program_texts()),
            ("calls", [*wrong_texts(), "-", "2*(0)", written((7,) * 201)]),
        ]:
            for text in strings(values):
                with self.subTest(word=word, text=text[:60]):
                    self.assert_refused(NoRow if "\n" in text else NoText, f"{word} {text}")

    def test_errors_of_the_functions(self):
        for row, kind in [
            ("call 60", NoCar), ("days 0", NoDays), (f"days {FOREVER + 1}", NoDays), (f"after {FOREVER + 1}", NoDays),
            (f"clear {FOREVER + 1}", NoIndex), (f"call {MOST}", NoCar),
        ]:
            self.assert_refused(kind, row)


class NotThere(unittest.TestCase):
    def assert_needed(self, rows, refused):
        for row in ROWS:
            word = row.split(" ")[0]
            console = console_with(*rows)
            with self.subTest(row=row, rows=rows):
                if word in refused:
                    for _ in range(2):
                        with self.assertRaises(NoRow):
                            console.say(row)
                elif word == "undo":
                    with self.assertRaises(Nothing):
                        console.say(row)
                else:
                    console.say(row)

    def test_rows_before_a_live_lane_or_calls(self):
        words = [row.split(" ")[0] for row in ROWS]
        without_lane = [word for word in words if word not in WITHOUT_LANE]
        self.assert_needed([], {*without_lane, *WITH_CALLS})
        self.assert_needed(["calls 0 1 2 1"], without_lane)
        self.assert_needed(["lane 2"], WITH_CALLS)
        self.assert_needed(["lane -"], WITH_CALLS)
        self.assert_needed(["lane -", "calls 0 1 2 1"], [])

    def test_it_is_said_before_other_errors(self):
        for rows, wrong in [
            ([], ["run", "run ", "run x", "route ", "route x", "call 60", "days 0", f"after {MOST}", "undo"]),
            (["calls 1"], ["run ", "run 60", "route  ", "route 0 0", "call 60", "days 0", f"clear {MOST}", "undo"]),
            (["lane 1"], ["days 0", f"after {FOREVER + 1}", f"clear {MOST}", f"days {MOST}"]),
        ]:
            for row in wrong:
                with self.assertRaises(NoRow):
                    console_with(*rows).say(row)

    def test_a_refused_lane_or_refused_calls_are_not_there(self):
        console = Console()
        for row in ["lane x", "lane ", "lane 0 0", "calls -", "calls 60", "calls "]:
            with self.assertRaises(NoText):
                console.say(row)
        for row in ["show", "map", "genus", "undo", "call 1"]:
            with self.assertRaises(NoRow):
                console.say(row)


class Sessions(unittest.TestCase):
    def assert_session(self, dice):
        cars = dice.choice([(0, 1, 2), (0, 59, 7, 30), FULL])
        console = Console()
        calls = tuple(dice.choices(cars, k=dice.randrange(1, 8)))
        lanes = [tuple(dice.sample(cars, dice.randrange(4) % len(cars)))]
        said = [console.say(f"calls {written(calls)}"), console.say(f"lane {written(lanes[0])}")]
        self.assertEqual(said, ["ok", "ok"])
        for _ in range(25):
            row = dice.choice(["call", "call", "days", "run", "undo", "show", "after", "route"])
            lane = lanes[-1]
            car, days = dice.choice(cars), dice.randrange(1, 5)
            after = slow_call(lane, car)
            if row == "call":
                self.assertEqual(console.say(f"call {car}"), written(lane[len(after):]))
                lanes.append(after)
            elif row == "run":
                lanes.append(slow_day(after, calls * days))
                self.assertEqual(console.say(f"run {car} {days}*({written(calls)})"), written(lanes[-1]))
            elif row in ["days", "after"]:
                after = slow_day(lane, calls * days)
                self.assertEqual(console.say(f"{row} {days}"), written(after))
                lanes.extend([after] if row == "days" else [])
            elif row == "undo" and len(lanes) > 1:
                lanes.pop()
                self.assertEqual(console.say("undo"), "ok")
            elif row == "undo":
                with self.assertRaises(Nothing):
                    console.say("undo")
            elif row == "route":
                text = console.say(f"route {written(after)}")
                self.assertEqual(text, str(car))
            self.assertEqual(console.say("show"), written(lanes[-1]))

    def test_random_sessions(self):
        dice = random.Random(16)
        for _ in range(120):
            self.assert_session(dice)

    def test_two_consoles_share_nothing(self):
        one, other = Console(), Console()
        one.say("lane 2")
        one.say("calls 1")
        for row in ["show", "map"]:
            with self.assertRaises(NoRow):
                other.say(row)
        other.say("lane 3")
        other.say("calls 4")
        self.assertEqual([one.say("show"), one.say("map"), other.say("show")], ["2", "->1 1>-", "3"])


if __name__ == "__main__":
    unittest.main()
