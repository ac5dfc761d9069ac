"""Programs: calls with nested repetitions."""

from deadlane.days import cycle_from, cycles_in
from deadlane.errors import NoProgram
from deadlane.lanes import are_cars, check_lane, is_whole, parts_of, step

MOST_STEPS = 60
MOST_STEPS_IN_ALL = 200
MOST_DEPTH = 8
MOST_TIMES = 10 ** 30


def is_repetition(value):
    """Tell whether a tuple is a number of times and another value, which may be a program or not."""
    return len(value) == 2 and is_whole(value[0]) and 1 <= value[0] <= MOST_TIMES


def repeated_in(value):
    """Return the list of what the steps of `value` repeat, or None if it is not a tuple of 1 to 60 steps."""
    if not isinstance(value, tuple) or not 1 <= len(value) <= MOST_STEPS:
        return None
    repetitions = [item for item in value if isinstance(item, tuple)]
    cars = tuple([item for item in value if not isinstance(item, tuple)])
    if not are_cars(cars) or not all([is_repetition(item) for item in repetitions]):
        return None
    return [item[1] for item in repetitions]


def is_program(value):
    """Tell whether `value` is a program."""
    level = [value]
    steps = 0
    # Level by level, since a value that contains the same tuple many times must not take long.
    for _ in range(MOST_DEPTH):
        deeper = []
        for part in level:
            repeated = repeated_in(part)
            if repeated is None:
                return False
            steps += len(part)
            if steps > MOST_STEPS_IN_ALL:
                return False
            deeper.extend(repeated)
        if not deeper:
            return True
        level = deeper
    return False


def check_program(value):
    """Raise NoProgram if `value` is not a program."""
    if not is_program(value):
        raise NoProgram("a program is a tuple of 1 to 60 steps, each one a car or a tuple (times, program)")


def calls_in(program):
    """Return the number of calls of a program that is checked already."""
    return sum([item[0] * calls_in(item[1]) if isinstance(item, tuple) else 1 for item in program])


def cars_in(program):
    """Return the cars of all steps, maybe several times, of a program that is checked already."""
    cars = []
    for item in program:
        if isinstance(item, tuple):
            cars.extend(cars_in(item[1]))
        else:
            cars.append(item)
    return cars


def repeated_map(leads, times):
    """Return the case map of so many runs of what has the case map `leads`."""
    repeated = {}
    for cycle in cycles_in(leads):
        shift = times % len(cycle)
        for case, led in zip(cycle, cycle[shift:] + cycle[:shift]):
            repeated[case] = led
    return repeated


def worked_out(program):
    """Return the steps, with a worked out program in place of each program, and the case map of one run."""
    steps = []
    # Under each case the one with which the run began if this case is reached now.
    begun = {None: None}
    for item in program:
        if isinstance(item, tuple):
            times, inner = item[0], worked_out(item[1])
            leads = repeated_map(inner[1], times)
            moved = {leads[case]: begun.get(case, case) for case in leads}
            begun.update(moved)
            steps.append((times, inner))
        else:
            begun[None], begun[item] = begun.get(item, item), begun[None]
            steps.append(item)
    return steps, {begun[case]: case for case in begun}


def run(lane, worked):
    """Return the lane after one run of a worked out program."""
    steps, _ = worked
    for item in steps:
        if isinstance(item, tuple):
            lane = run_repeatedly(lane, item[0], item[1])
        else:
            lane = step(lane, item)
    return lane


def run_repeatedly(lane, times, worked):
    """Return the lane after so many runs of a worked out program."""
    _, leads = worked
    fixed, case = parts_of(lane, leads)
    cycle = cycle_from(leads, case)
    # The lane after the last run depends only on the case before it, and cars of the fixed part stay.
    last = cycle[(times - 1) % len(cycle)]
    return fixed + run(() if last is None else (last,), worked)


def count_calls(program):
    """Return the number of calls of a program."""
    check_program(program)
    return calls_in(program)


def cars_of(program):
    """Return the ascending list of the cars that a program calls."""
    check_program(program)
    return sorted(set(cars_in(program)))


def after_program(lane, program):
    """Return the lane after the calls of a program."""
    check_lane(lane)
    check_program(program)
    return run(lane, worked_out(program))


def map_of(program):
    """Return the case map that the calls of a program have, with None and the cars that it calls as keys."""
    check_program(program)
    _, leads = worked_out(program)
    return {case: leads[case] for case in [None, *sorted(set(cars_in(program)))]}
