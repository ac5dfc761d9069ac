"""Days: what becomes of a lane when calls are repeated every day."""

from deadlane.errors import NoCase, NoDays, NotEnd
from deadlane.lanes import case_of, check_calls, check_lane, fixed_part, is_car, is_whole, play

MOST_DAYS = 10 ** 30


def check_days(value):
    """Raise NoDays if `value` is not a number of days from 0 to 10 ** 30."""
    if not is_whole(value) or not 0 <= value <= MOST_DAYS:
        raise NoDays("days are an integer from 0 to 10 ** 30")


def check_case(value, calls):
    """Raise NoCase if `value` is not a case of the calls."""
    # True and False equal the cars 1 and 0, but they are no cases.
    if value is not None and not (is_car(value) and value in calls):
        raise NoCase("a case is None or a car that is called")


def cases_of(calls):
    """Return the cases of the calls: None, then the cars in ascending order."""
    return [None, *sorted(set(calls))]


def case_after(case, calls):
    """Return the case after a day that begins with a case."""
    # The cars behind the innermost one cannot change when it leaves or comes.
    for car in calls:
        if case is None:
            case = car
        elif case == car:
            case = None
    return case


def cycle_from(leads, first):
    """Return the list of the cases to which the day map leads from the first one on, which it begins with."""
    cycle = [first]
    case = leads[first]
    while case != first:
        cycle.append(case)
        case = leads[case]
    return cycle


def case_ending_in(lane, calls):
    """Return the case whose end lane this lane is; raise NotEnd if there is none."""
    for case in cases_of(calls):
        if end_lane(calls, case) == lane:
            return case
    raise NotEnd("the lane is not an end lane of the calls")


def end_lane(calls, case):
    """Return the end lane of a case."""
    check_calls(calls)
    check_case(case, calls)
    # Cars behind the innermost one leave with it during the day, so any lane of the case will do.
    lane = () if case is None else (case,)
    return play(lane, calls)


def day_map(calls):
    """Return the dict that leads from each case to the case of its end lane."""
    check_calls(calls)
    return {case: case_after(case, calls) for case in cases_of(calls)}


def after_days(lane, calls, *, days=1):
    """Return the lane after so many days."""
    check_lane(lane)
    check_calls(calls)
    check_days(days)
    if days == 0:
        return lane
    cycle = cycle_from(day_map(calls), case_of(lane, calls))
    # Only cases repeat from the very begin, lanes from the end of the first day on.
    last_case = cycle[(days - 1) % len(cycle)]
    return fixed_part(lane, calls) + end_lane(calls, last_case)


def cycles_of(calls):
    """Return the cycles of the day map, in the order of their first cases."""
    leads = day_map(calls)
    seen = set()
    cycles = []
    for first in leads:
        if first not in seen:
            cycle = cycle_from(leads, first)
            cycles.append(cycle)
            for case in cycle:
                seen.add(case)
    return cycles


def period(lane, calls):
    """Return the least number of days after which the lanes at the ends of days come again."""
    check_lane(lane)
    check_calls(calls)
    return len(cycle_from(day_map(calls), case_of(lane, calls)))


def day_before(lane, calls):
    """Return the end lane from which a day leads to this one."""
    check_lane(lane)
    check_calls(calls)
    cycle = cycle_from(day_map(calls), case_ending_in(lane, calls))
    return end_lane(calls, cycle[-1])


def count_before(lane, calls):
    """Return the number of lanes of called cars from which a day leads to this end lane."""
    check_lane(lane)
    check_calls(calls)
    if case_ending_in(lane, calls) is None:
        return 1
    # The innermost car is given; behind it stands any lane of the other called cars.
    others = len(set(calls)) - 1
    count = 1
    for cars in range(1, others + 1):
        count = 1 + cars * count
    return count
