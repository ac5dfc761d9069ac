"""Days: what becomes of a lane when calls are repeated every day."""

from deadlane.errors import NoCase, NoDays, NotEnd
from deadlane.lanes import check_calls, check_lane, end_of, is_car, is_whole, parts_of

MOST_DAYS = 10 ** 30


def check_days(value):
    """Raise NoDays if `value` is not a number of days from 0 to 10 ** 30."""
    if not is_whole(value) or not 0 <= value <= MOST_DAYS:
        raise NoDays("days are an integer from 0 to 10 ** 30")


def check_case(value, calls):
    """Raise NoCase if `value` is not a case of the calls."""
    # True and False equal the cars 1 and 0, but they are no cases.
    if value is not None and not (is_car(value) and value in calls):
        raise NoCase("a case is None or a car that is called")


def leads_of(calls):
    """Return the day map of calls that are checked already."""
    cars = sorted(set(calls))
    # Under each car the case with which the day began if this car is the innermost one now.
    begun = {car: car for car in cars}
    begun_without = None
    for car in calls:
        begun_without, begun[car] = begun[car], begun_without
    leads = {case: None for case in [None, *cars]}
    for car, case in begun.items():
        leads[case] = car
    return leads


def case_before(case, calls):
    """Return the case with which a day began that ends with a case."""
    # A call exchanges no car and its car, so the same calls in the other direction lead back.
    for car in calls[::-1]:
        if case is None:
            case = car
        elif case == car:
            case = None
    return case


def cycle_from(leads, first):
    """Return the list of the keys to which `leads` leads from the first one on, which it begins with."""
    cycle = [first]
    key = leads[first]
    while key != first:
        cycle.append(key)
        key = leads[key]
    return cycle


def cycles_in(leads):
    """Return the cycles of a dict that leads from each key to another one, in the order of their first keys."""
    seen = set()
    cycles = []
    for first in leads:
        if first not in seen:
            cycle = cycle_from(leads, first)
            cycles.append(cycle)
            for key in cycle:
                seen.add(key)
    return cycles


def lane_after(lane, calls, days):
    """Return the lane after any number of days; the arguments are checked already."""
    if days == 0:
        return lane
    fixed, case = parts_of(lane, calls)
    cycle = cycle_from(leads_of(calls), case)
    # Only cases repeat from the very begin, lanes from the end of the first day on.
    return fixed + end_of(cycle[(days - 1) % len(cycle)], calls)


def case_ending_in(lane, calls):
    """Return the case whose end lane this lane is; raise NotEnd if there is none."""
    # Different cases end in different ones, so only one day can have led to this lane.
    if not lane or lane[0] in calls:
        case = case_before(lane[0] if lane else None, calls)
        if end_of(case, calls) == lane:
            return case
    raise NotEnd("the lane is not an end lane of the calls")


def end_lane(calls, case):
    """Return the end lane of a case."""
    check_calls(calls)
    check_case(case, calls)
    return end_of(case, calls)


def day_map(calls):
    """Return the dict that leads from each case to the case of its end lane."""
    check_calls(calls)
    return leads_of(calls)


def after_days(lane, calls, *, days=1):
    """Return the lane after so many days."""
    check_lane(lane)
    check_calls(calls)
    check_days(days)
    return lane_after(lane, calls, days)


def cycles_of(calls):
    """Return the cycles of the day map, in the order of their first cases."""
    return cycles_in(day_map(calls))


def period(lane, calls):
    """Return the least number of days after which the lanes at the ends of days come again."""
    check_lane(lane)
    check_calls(calls)
    _, case = parts_of(lane, calls)
    return len(cycle_from(leads_of(calls), case))


def day_before(lane, calls):
    """Return the end lane from which a day leads to this one."""
    check_lane(lane)
    check_calls(calls)
    case = case_ending_in(lane, calls)
    return end_of(case_before(case, calls), calls)


def count_before(lane, calls):
    """Return the number of lanes of called cars from which a day leads to this end lane."""
    check_lane(lane)
    check_calls(calls)
    if case_ending_in(lane, calls) is None:
        return 1
    # The innermost car is given; behind it stands any lane of the other called cars.
    others = len(set(calls)) - 1
    count = 1
    for cars in range(1, others + 1):
        count = 1 + cars * count
    return count
