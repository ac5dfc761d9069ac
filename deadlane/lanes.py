"""Lanes and calls: what a call does to a lane, and what calls see of a lane."""

from deadlane.errors import NoCalls, NoCar, NoLane

CARS = 60
MOST_CALLS = 200


def is_whole(value):
    """Tell whether `value` is an integer, which True and False are not."""
    return isinstance(value, int) and not isinstance(value, bool)


def is_car(value):
    """Tell whether `value` is a car."""
    return is_whole(value) and 0 <= value < CARS


def are_cars(value):
    """Tell whether `value` is a tuple of cars, different or not."""
    if not isinstance(value, tuple):
        return False
    for item in value:
        # Nearly all items are plain integers, and a call of is_car for each would take most of the time.
        if (type(item) is not int or not 0 <= item < CARS) and not is_car(item):
            return False
    return True


def is_lane(value):
    """Tell whether `value` is a lane."""
    # Items that are no cars might have no hash, so they must not come to the set.
    return are_cars(value) and len(set(value)) == len(value)


def are_calls(value):
    """Tell whether `value` is calls."""
    return are_cars(value) and 1 <= len(value) <= MOST_CALLS


def check_lane(value):
    """Raise NoLane if `value` is not a lane."""
    if not is_lane(value):
        raise NoLane("a lane is a tuple of different cars")


def check_calls(value):
    """Raise NoCalls if `value` is not calls."""
    if not are_calls(value):
        raise NoCalls("calls are a tuple of 1 to 200 cars")


def check_car(value):
    """Raise NoCar if `value` is not a car."""
    if not is_car(value):
        raise NoCar("a car is an integer from 0 to 59")


def step(lane, car):
    """Return the lane after a call; the arguments are checked already."""
    longer = lane + (car,)
    # With the car at the end one look through the lane tells both whether it is there and where.
    at = longer.index(car)
    return longer[:at] if at < len(lane) else longer


def parts_of(lane, calls):
    """Return the fixed part of a lane and its case; the arguments are checked already."""
    cars = set(calls)
    for at, car in enumerate(lane):
        if car in cars:
            return lane[:at], car
    return lane, None


def cars_left(calls, at):
    """Return the lane after the last call if it is empty before the call with the index `at`."""
    lasts = {car: index for index, car in enumerate(calls)}
    left = []
    while at < len(calls):
        car = calls[at]
        if at < lasts[car]:
            # Whatever comes behind a car that is called again leaves with it.
            at = calls.index(car, at + 1)
        else:
            left.append(car)
        at += 1
    return tuple(left)


def end_of(case, calls):
    """Return the end lane of a case; the arguments are checked already."""
    # The innermost car leaves at its first call, and all cars behind it leave with it.
    return cars_left(calls, 0 if case is None else calls.index(case) + 1)


def play(lane, calls):
    """Return the lane after calls, one after the other; the arguments are checked already."""
    fixed, case = parts_of(lane, calls)
    return fixed + end_of(case, calls)


def called(lane, car):
    """Return the lane after a call."""
    check_lane(lane)
    check_car(car)
    return step(lane, car)


def leaving(lane, car):
    """Return the cars that leave at a call, in their order in the lane."""
    check_lane(lane)
    check_car(car)
    return lane[(lane + (car,)).index(car):]


def after_calls(lane, calls):
    """Return the lane after a day."""
    check_lane(lane)
    check_calls(calls)
    return play(lane, calls)


def lanes_from(lane, calls):
    """Yield the lane, then the lane after each call of the endlessly repeated day."""
    check_lane(lane)
    check_calls(calls)
    yield lane
    while True:
        for car in calls:
            lane = step(lane, car)
            yield lane


def fixed_part(lane, calls):
    """Return the cars before the first one that is called in a day."""
    check_lane(lane)
    check_calls(calls)
    fixed, _ = parts_of(lane, calls)
    return fixed


def case_of(lane, calls):
    """Return the first car behind the fixed part, or None if there is none."""
    check_lane(lane)
    check_calls(calls)
    _, case = parts_of(lane, calls)
    return case
