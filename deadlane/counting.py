"""Counting: how often cars drive in and leave in many days, and how long the lane becomes.

A stay begins with a call at which a car drives in behind the fixed part, and ends with the next call of this car.
What happens in it depends only on the call at which it begins, and one stay follows the other. A tally tells how
many of the counted cars drive in, and the greatest number of cars in the lane.
"""

from deadlane.crossings import gaps_in_order
from deadlane.days import check_days, lane_after
from deadlane.lanes import check_calls, check_car, check_lane, parts_of, step
from deadlane.moments import first_clear, round_from


def tally_of_calls(lane, calls, counted):
    """Return the tally of calls from a lane on; an item of `counted` is 1 if the car of this call is counted, or 0."""
    entering = 0
    most = len(lane)
    for car, count in zip(calls, counted):
        after = step(lane, car)
        if len(after) > len(lane):
            entering += count
            most = max(most, len(after))
        lane = after
    return entering, most


def tally_between(gaps, counted, stays, begin, end):
    """Return the tally from one moment to another one, if the lane is empty at the first one.

    The tally of each stay that ends before the second moment is already in `stays`.
    """
    size = len(gaps)
    entering = 0
    most = 0
    waiting = 0
    at = begin
    while at < end:
        turn = at % size
        again = at + gaps[turn]
        if again < end:
            inside, length = stays[turn]
            entering += inside
            if waiting + length > most:
                most = waiting + length
            at = again + 1
        else:
            # The car stays up to the end, and what comes from now on stands behind it.
            entering += counted[turn]
            waiting += 1
            at += 1
    return entering, max(most, waiting)


def tallies_of_stays(gaps, counted):
    """Return the tally of the stay that begins with each call."""
    stays = [(0, 0)] * len(gaps)
    # Stays that end within another one are shorter, so their tallies are there when they are needed.
    for at in sorted(range(len(gaps)), key=lambda turn: gaps[turn]):
        entering, most = tally_between(gaps, counted, stays, at + 1, at + gaps[at])
        stays[at] = (entering + counted[at], most + 1)
    return stays


def tally_of_days(lane, calls, days, counted):
    """Return the tally of so many days; the arguments are checked already."""
    end = days * len(calls)
    clear = min(first_clear(lane, calls), end)
    entering, most = tally_of_calls(lane, calls[:clear], counted)
    if clear < end:
        gaps = gaps_in_order(calls)
        stays = tallies_of_stays(gaps, counted)
        fixed, _ = parts_of(lane, calls)
        length = round_from(calls, clear)[-1]
        rounds, rest = divmod(end - clear, length)
        for times, span in [(rounds, length), (1, rest)]:
            if times > 0:
                inside, longest_part = tally_between(gaps, counted, stays, clear, clear + span)
                entering += times * inside
                most = max(most, len(fixed) + longest_part)
    return entering, most


def tally_of_all(lane, calls, days):
    """Return the tally of so many days in which each car is counted; the arguments are checked here."""
    check_lane(lane)
    check_calls(calls)
    check_days(days)
    return tally_of_days(lane, calls, days, [1] * len(calls))


def count_entering(lane, calls, *, days):
    """Return how often a car drives in in so many days."""
    entering, _ = tally_of_all(lane, calls, days)
    return entering


def count_leaving(lane, calls, *, days):
    """Return how often a car leaves in so many days, each car that leaves counted."""
    entering, _ = tally_of_all(lane, calls, days)
    # The cars that were there or came in, and are not there at the end, have left.
    return len(lane) + entering - len(lane_after(lane, calls, days))


def count_forced(lane, calls, car, *, days):
    """Return how often a car leaves at a call of another car in so many days."""
    check_lane(lane)
    check_calls(calls)
    check_car(car)
    check_days(days)
    counted = [1 if other == car else 0 for other in calls]
    entering, _ = tally_of_days(lane, calls, days, counted)
    left = (car in lane) + entering - (car in lane_after(lane, calls, days))
    # At each of its calls the car drives in, or it leaves without being forced.
    return left - (days * sum(counted) - entering)


def longest(lane, calls, *, days):
    """Return the greatest number of cars in the lane, at the begin and after each call of so many days."""
    _, most = tally_of_all(lane, calls, days)
    return most
