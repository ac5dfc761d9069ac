"""Crossings: how the calls of different cars interlace in a day."""

from deadlane.days import cycles_of
from deadlane.lanes import check_calls


def gaps_in_order(calls):
    """Return for each call the number of calls from it to the next one of its car; the calls are checked already."""
    size = len(calls)
    # The last call of a car on the day before has an index below 0, which is that of the same call from the end.
    before = {car: at - size for at, car in enumerate(calls)}
    gaps = [0] * size
    for at, car in enumerate(calls):
        gaps[before[car]] = at - before[car]
        before[car] = at
    return gaps


def first_crossed(calls, firsts, lasts):
    """Return the car, first called of all, that is called again between two calls of a car that comes after it.

    Return None if there is none. The dicts lead from each car to the indexes of its first and its last call.
    """
    found = None
    waiting = []
    for at, car in enumerate(calls):
        while waiting and lasts[waiting[-1]] < at:
            waiting.pop()
        if firsts[car] == at:
            waiting.append(car)
        elif waiting[-1] != car and (found is None or firsts[car] < firsts[found]):
            found = car
    return found


def crossing_in(calls):
    """Return the least crossing, or None if there is none."""
    check_calls(calls)
    firsts = {}
    lasts = {}
    for at, car in enumerate(calls):
        firsts.setdefault(car, at)
        lasts[car] = at
    car = first_crossed(calls, firsts, lasts)
    if car is None:
        return None
    # In the least crossing both cars are called for the first time: an earlier call would make it less.
    for other, at in firsts.items():
        if firsts[car] < at < lasts[car]:
            again = calls.index(car, at)
            if again < lasts[other]:
                return firsts[car], at, again, calls.index(other, again)
    return None


def count_cycles(calls):
    """Return the number of cycles of the day map."""
    return len(cycles_of(calls))


def genus(calls):
    """Return the genus: half of what the cycles are fewer than calls and one more, without the cars."""
    cycles = count_cycles(calls)
    return (len(calls) + 1 - len(set(calls)) - cycles) // 2


def gaps_of(calls):
    """Return the dict that leads from each car that is called to the list of its gaps."""
    check_calls(calls)
    gaps = {car: [] for car in sorted(set(calls))}
    for car, gap in zip(calls, gaps_in_order(calls)):
        gaps[car].append(gap)
    return gaps
