"""Texts: lanes, calls and programs as strings, and back."""

from deadlane.errors import NoText
from deadlane.lanes import are_calls, check_lane, is_lane
from deadlane.programs import check_program, is_program

EMPTY = "-"
MOST_DIGITS = 31


def is_number(text):
    """Tell whether a string is a decimal number of 1 to 31 digits without leading zeros."""
    # Signs beyond ASCII may count as digits, too.
    if not text.isascii() or not text.isdigit() or len(text) > MOST_DIGITS:
        return False
    return text == "0" or not text.startswith("0")


def text_of(cars):
    """Return the text of a tuple of cars, which may be empty."""
    return " ".join([str(car) for car in cars]) if cars else EMPTY


def numbers_in(text):
    """Return the tuple of the numbers in a string, or None if it is not numbers separated by single spaces."""
    words = text.split(" ")
    if not all([is_number(word) for word in words]):
        return None
    return tuple([int(word) for word in words])


def lane_in(text):
    """Return the tuple of the numbers in the text of a lane, or None if a string is not of this form."""
    return () if text == EMPTY else numbers_in(text)


def steps_in(text):
    """Return the steps in a string as a program has them, or None if it is not of the form of a program."""
    # The times and the steps of the repetitions that are not closed yet; the outermost steps are repeated by none.
    times = []
    steps = [[]]
    for word in text.split(" "):
        # In each word stands one car, behind the beginnings of repetitions and before the ends of some.
        begun = word.rstrip(")")
        numbers = begun.split("*(")
        ends = len(word) - len(begun)
        if not all([is_number(number) for number in numbers]) or ends > len(times) + len(numbers) - 1:
            return None
        for number in numbers[:-1]:
            times.append(int(number))
            steps.append([])
        steps[-1].append(int(numbers[-1]))
        for _ in range(ends):
            repeated = tuple(steps.pop())
            steps[-1].append((times.pop(), repeated))
    return None if times else tuple(steps[0])


def show_lane(lane):
    """Return the text of a lane."""
    check_lane(lane)
    return text_of(lane)


def read_lane(text):
    """Return the lane with this text."""
    lane = lane_in(text) if isinstance(text, str) else None
    if not is_lane(lane):
        raise NoText("the text of a lane is its cars, separated by single spaces, or - if there are none")
    return lane


def read_calls(text):
    """Return the calls with this text."""
    calls = numbers_in(text) if isinstance(text, str) else None
    if not are_calls(calls):
        raise NoText("the text of calls is 1 to 200 cars, separated by single spaces")
    return calls


def text_of_steps(program):
    """Return the text of a program that is checked already."""
    return " ".join([
        f"{item[0]}*({text_of_steps(item[1])})" if isinstance(item, tuple) else str(item) for item in program
    ])


def show_program(program):
    """Return the text of a program."""
    check_program(program)
    return text_of_steps(program)


def read_program(text):
    """Return the program with this text."""
    program = steps_in(text) if isinstance(text, str) else None
    if not is_program(program):
        raise NoText("the text of a program is its steps, separated by single spaces, such as 0 3*(1 2) 1")
    return program
