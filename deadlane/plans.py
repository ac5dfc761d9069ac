"""Plans: shortest calls for a given effect."""

from deadlane.days import cycles_in, leads_of
from deadlane.errors import NoMap, NoSize
from deadlane.lanes import are_cars, check_calls, check_lane, is_whole

MOST_CARS_COUNTED = 9
MOST_CALLS_COUNTED = 60


def are_cases(values):
    """Tell whether all items of a list are None or cars."""
    return are_cars(tuple([value for value in values if value is not None]))


def is_case_map(value):
    """Tell whether `value` is a case map."""
    if not isinstance(value, dict):
        return False
    leads = list(value.values())
    # Items that are no cases might have no hash, so they must not come to a set.
    return are_cases(list(value)) and are_cases(leads) and None in value and set(leads) == set(value)


def check_map(value):
    """Raise NoMap if `value` is not a case map."""
    if not is_case_map(value):
        raise NoMap("a case map is a dict from None and cars to these same values, each of them once")


def check_size(value):
    """Raise NoSize if `value` is not a number of calls that are counted."""
    if not is_whole(value) or not 0 <= value <= MOST_CALLS_COUNTED:
        raise NoSize("a size is an integer from 0 to 60")


def cycles_of_map(case_map):
    """Return the cycles of a case map, that of None first, then in the order of their least cars."""
    cars = sorted([case for case in case_map if case is not None])
    # The order of the items of the dict must not tell on the result.
    return cycles_in({case: case_map[case] for case in [None, *cars]})


def fewest_calls(case_map):
    """Return the least number of calls that have a case map."""
    return len(plan_for(case_map))


def plan_for(case_map):
    """Return a shortest tuple of calls that have a case map."""
    check_map(case_map)
    first, *others = cycles_of_map(case_map)
    plan = first[1:]
    for cycle in others:
        if len(cycle) > 1:
            # The innermost car must be away while the others of the cycle are called, and come back at the end.
            plan.extend([*cycle, cycle[0]])
    return tuple(plan)


def has_map(calls, case_map):
    """Tell whether calls have a case map."""
    check_calls(calls)
    check_map(case_map)
    leads = leads_of(calls)
    return all([case in case_map for case in leads]) and all([
        leads.get(case, case) == led for case, led in case_map.items()
    ])


def shapes_after(shape):
    """Return the shapes of case maps to which one call leads from a shape, one for each car.

    A shape is the length of the cycle of None and the ascending tuple of the lengths of the other cycles.
    """
    size, others = shape
    # A call of a car in the cycle of None splits it, that of a car in another cycle joins both.
    shapes = [(part, tuple(sorted([*others, size - part]))) for part in range(1, size)]
    for at, length in enumerate(others):
        joined = (size + length, others[:at] + others[at + 1:])
        shapes.extend([joined] * length)
    return shapes


def shapes_from(shape):
    """Return all shapes to which calls lead from a shape, and for each one the numbers of those after one call."""
    shapes = [shape]
    numbers = {shape: 0}
    rows = []
    while len(rows) < len(shapes):
        now = shapes[len(rows)]
        row = []
        for after in shapes_after(now):
            if after not in numbers:
                numbers[after] = len(shapes)
                shapes.append(after)
            row.append(numbers[after])
        rows.append(row)
    return shapes, rows


def counts_after_call(counts, rows):
    """Return how many tuples of one call more lead to each shape."""
    more = [0] * len(counts)
    for count, row in zip(counts, rows):
        if count:
            for number in row:
                more[number] += count
    return more


def count_plans(case_map, *, size):
    """Return the number of tuples of this size that have a case map of at most 9 cars."""
    check_map(case_map)
    cars = len(case_map) - 1
    if cars > MOST_CARS_COUNTED:
        raise NoMap("plans are counted for at most 9 cars")
    check_size(size)
    # Maps with cycles of the same lengths have equally many plans, and there are few such shapes.
    lengths = [len(cycle) for cycle in cycles_of_map(case_map)]
    shapes, rows = shapes_from((lengths[0], tuple(sorted(lengths[1:]))))
    counts = [1] + [0] * (len(shapes) - 1)
    for _ in range(size):
        counts = counts_after_call(counts, rows)
    # Calls that undo the map are its plans backwards.
    return counts[shapes.index((1, (1,) * cars))]


def route(lane, target):
    """Return the shortest tuple of calls that leads from a lane to another one."""
    check_lane(lane)
    check_lane(target)
    same = 0
    while same < min(len(lane), len(target)) and lane[same] == target[same]:
        same += 1
    # The first car that must not stay takes all behind it along.
    return lane[same:same + 1] + target[same:]
