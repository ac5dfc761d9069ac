"""Section 12, with the point [14]."""

import random
import unittest
from itertools import permutations, product

from deadlane.errors import NoText
from deadlane.programs import is_program
from deadlane.texts import read_calls, read_lane, read_program, show_lane, show_program
from tests.samples import (
    all_calls, levels, long_calls, steps_in_all, wrong_lane_texts, wrong_program_texts, wrong_texts,
)

FULL = tuple(range(60))
FOREVER = 10 ** 30
PROGRAM = (0, (3, (1, (2, (5,)))), 1)
PROGRAMS = [
    (0,), (59,), (7, 7, 7), FULL, (7,) * 60, PROGRAM, ((FOREVER, (59,)),), ((1, (0,)), (2, (0, 0))), (0, (10, (10, 1))),
    ((2, ((3, ((4, (5,)), 6)),)), 7), levels(8), levels(8, times=FOREVER), steps_in_all(200), ((12, FULL), (3, FULL)),
]


def none_if_refused(function, text):
    try:
        return function(text)
    except NoText:
        return None


def numbers(signs, size):
    """The numbers of these digits and at most this size, without leading zeros."""
    for length in range(1, size + 1):
        for digits in product(signs, repeat=length):
            if length == 1 or digits[0] != "0":
                yield int("".join(digits))


def steps_written(signs, size):
    """All steps whose text has at most this size and no digits but these, with their texts."""
    for number in numbers(signs, size):
        if number < 60:
            yield str(number), number
    for times in numbers(signs, size - 4):
        if times > 0:
            for text, program in programs_written(signs, size - 3 - len(str(times))):
                yield f"{times}*({text})", (times, program)


def programs_written(signs, size):
    """All programs whose text has at most this size and no digits but these, with their texts."""
    for text, step in steps_written(signs, size):
        yield text, (step,)
        for rest, program in programs_written(signs, size - len(text) - 1):
            yield f"{text} {rest}", (step, *program)


def strings(signs, size):
    """All strings of these signs of at most this size."""
    for length in range(size + 1):
        yield from map("".join, product(signs, repeat=length))


def changed_by_one_sign(text, signs):
    """The strings that differ from a text by a sign that is missing, new or another one."""
    for at in range(len(text) + 1):
        yield text[:at] + text[at + 1:]
        for sign in signs:
            yield text[:at] + sign + text[at:]
            yield text[:at] + sign + text[at + 1:]


class Examples(unittest.TestCase):
    def test_lanes(self):
        self.assertEqual([show_lane((3, 10)), show_lane(()), read_lane("3 10")], ["3 10", "-", (3, 10)])

    def test_programs(self):
        told = [show_program(PROGRAM), read_program("0 3*(1 2)")]
        self.assertEqual(told, ["0 3*(1 2*(5)) 1", (0, (3, (1, 2)))])


class Lanes(unittest.TestCase):
    def test_there_and_back(self):
        for lane in [*permutations([0, 5, 10, 59]), (), (0,), (59,), (10, 1, 0), FULL, FULL[::-1], FULL[7:40:3]]:
            text = show_lane(lane)
            self.assertEqual(text, " ".join(map(str, lane)) or "-")
            self.assertEqual(read_lane(text), lane)
            self.assertIs(type(read_lane(text)), tuple)

    def test_the_empty_lane(self):
        self.assertEqual([show_lane(()), read_lane("-")], ["-", ()])
        for text in ["", " ", "--", "- ", " -", "0 -", "- 0", "-0", "0-", "- -", "-\n"]:
            self.assertIsNone(none_if_refused(read_lane, text))

    def test_all_short_strings(self):
        cars = [number for number in numbers("015", 3) if number < 60]
        texts = {" ".join(map(str, lane)): lane for size in [1, 2, 3] for lane in permutations(cars, size)}
        texts["-"] = ()
        read = 0
        for text in strings("015 -", 5):
            self.assertEqual(none_if_refused(read_lane, text), texts.get(text), text)
            read += text in texts
        self.assertEqual(read, len([text for text in texts if len(text) <= 5]))

    def test_strings_that_differ_by_one_sign(self):
        for lane in [(), (0,), (3, 10), (59, 0, 7), (1, 11, 10, 20)]:
            for text in changed_by_one_sign(show_lane(lane), " -0169*()\nx,"):
                told = none_if_refused(read_lane, text)
                if told is not None:
                    self.assertEqual(show_lane(told), text)

    def test_no_texts(self):
        for at, value in enumerate(wrong_lane_texts()):
            with self.subTest(at=at):
                with self.assertRaises(NoText):
                    read_lane(value)


class Calls(unittest.TestCase):
    def test_there_and_back(self):
        for calls in [*all_calls(3, 3), *long_calls(), (0,), (59,), (59,) * 200]:
            self.assertEqual(read_calls(" ".join(map(str, calls))), calls)

    def test_no_texts(self):
        for at, value in enumerate([*wrong_texts(), "-", "2*(0)", " ".join(["7"] * 201), "60", "0 60"]):
            with self.subTest(at=at):
                with self.assertRaises(NoText):
                    read_calls(value)


class Programs(unittest.TestCase):
    def test_there_and_back(self):
        for program in PROGRAMS:
            self.assertEqual(read_program(show_program(program)), program)

    def test_texts(self):
        told = [show_program(program) for program in PROGRAMS[7:11]]
        self.assertEqual(told, [
            "1*(0) 2*(0 0)", "0 10*(10 1)", "2*(3*(4*(5) 6)) 7", "2*(2*(2*(2*(2*(2*(2*(0)))))))",
        ])
        self.assertEqual(show_program((3, (FOREVER, (4,)))), "3 1" + "0" * 30 + "*(4)")
        self.assertEqual(show_program(FULL), " ".join(map(str, range(60))))

    def test_all_short_strings(self):
        texts = dict(programs_written("02", 7))
        self.assertGreater(len(texts), 100)
        self.assertLessEqual({"2*(2 0)", "2*(0) 0", "0 20 22"}, set(texts))
        for text, program in texts.items():
            self.assertEqual((read_program(text), show_program(program)), (program, text))
        for text in strings("02 *()", 6):
            if text not in texts:
                self.assertIsNone(none_if_refused(read_program, text), text)

    def test_strings_that_differ_by_one_sign(self):
        for program in [PROGRAM, *PROGRAMS[:3], *PROGRAMS[6:11]]:
            for text in changed_by_one_sign(show_program(program), " -0269*()\nx,"):
                told = none_if_refused(read_program, text)
                if told is not None:
                    self.assertIs(is_program(told), True)
                    self.assertEqual(show_program(told), text)

    def test_long_texts_that_differ_by_one_sign(self):
        dice = random.Random(15)
        for program in [levels(8, times=FOREVER), steps_in_all(200), FULL]:
            text = show_program(program)
            for _ in range(300):
                at = dice.randrange(len(text))
                other = text[:at] + dice.choice(["", *" 05*()"]) + text[at + dice.randrange(2):]
                told = none_if_refused(read_program, other)
                if told is not None:
                    self.assertIs(is_program(told), True)
                    self.assertEqual(show_program(told), other)

    def test_limits(self):
        seven = " ".join(["7"] * 60)
        for text in [seven, f"2*({seven})", "59", f"{FOREVER}*(0)", "1*(0)", "2*(" * 7 + "0" + ")" * 7]:
            self.assertEqual(show_program(read_program(text)), text)
        for text in [
            f"{seven} 7", f"2*({seven} 7)", "60", f"{FOREVER + 1}*(0)", "0*(0)", "2*(" * 8 + "0" + ")" * 8,
            " ".join([f"2*({seven})"] * 3 + ["7"] * 18), "9" * 31 + "*(0)", "1" + "0" * 31 + "*(0)",
        ]:
            self.assertIsNone(none_if_refused(read_program, text), text)
        self.assertEqual(read_program(" ".join([f"2*({seven})"] * 3 + ["7"] * 17)), ((2, (7,) * 60),) * 3 + (7,) * 17)

    def test_no_texts(self):
        for at, value in enumerate(wrong_program_texts()):
            with self.subTest(at=at):
                with self.assertRaises(NoText):
                    read_program(value)

    def test_spaces(self):
        for text in ["0 1", "0 2*(1 3) 1", "2*(1) 2*(2)", "2*(3*(1 2) 4)"]:
            self.assertEqual(show_program(read_program(text)), text)
            for at, sign in enumerate(text):
                if sign == " ":
                    for other in ["", "  ", "\n", "\t", ", "]:
                        changed = text[:at] + other + text[at + 1:]
                        told = none_if_refused(read_program, changed)
                        self.assertTrue(told is None or (other == "" and show_program(told) == changed), changed)
            for before in [" ", "\n", "("]:
                self.assertIsNone(none_if_refused(read_program, before + text))
            for behind in [" ", "\n", ")", "(", "*("]:
                self.assertIsNone(none_if_refused(read_program, text + behind))


if __name__ == "__main__":
    unittest.main()
