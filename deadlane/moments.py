"""Moments: when a lane is clear while calls are repeated every day."""

from deadlane.crossings import gaps_in_order
from deadlane.days import cycles_in, lane_after
from deadlane.errors import NoIndex, NoMoment
from deadlane.lanes import check_calls, check_lane, is_whole, parts_of, play

LAST_MOMENT = 10 ** 36
LAST_INDEX = 10 ** 30


def check_moment(value):
    """Raise NoMoment if `value` is not a moment."""
    if not is_whole(value) or not 0 <= value <= LAST_MOMENT:
        raise NoMoment("a moment is an integer from 0 to 10 ** 36")


def check_index(value):
    """Raise NoIndex if `value` is not the index of a clear moment."""
    if not is_whole(value) or not 0 <= value <= LAST_INDEX:
        raise NoIndex("an index is an integer from 0 to 10 ** 30")


def first_clear(lane, calls):
    """Return the first clear moment of a lane; the arguments are checked already."""
    _, case = parts_of(lane, calls)
    return 0 if case is None else calls.index(case) + 1


def round_from(calls, moment):
    """Return how long after a clear moment it and the next ones come, up to the first before the same call again."""
    size = len(calls)
    gaps = gaps_in_order(calls)
    after = 0
    times = []
    while not times or after % size != 0:
        times.append(after)
        # The car that comes now leaves at its next call; after that call the lane is clear.
        after = after + gaps[(moment + after) % size] + 1
    return [*times, after]


def lane_at(lane, calls, moment):
    """Return the lane at a moment."""
    check_lane(lane)
    check_calls(calls)
    check_moment(moment)
    days, turn = divmod(moment, len(calls))
    return play(lane_after(lane, calls, days), calls[:turn])


def next_clear(calls, moment):
    """Return the first clear moment after this one, if the lane is clear at it."""
    check_calls(calls)
    check_moment(moment)
    turn = moment % len(calls)
    # At the latest on the day after, the car of this call is called again.
    again = (calls + calls).index(calls[turn], turn + 1)
    return moment - turn + again + 1


def nth_clear(lane, calls, index):
    """Return the clear moment with an index, counted from 0."""
    check_lane(lane)
    check_calls(calls)
    check_index(index)
    first = first_clear(lane, calls)
    times = round_from(calls, first)
    rounds, rest = divmod(index, len(times) - 1)
    return first + rounds * times[-1] + times[rest]


def count_clear(lane, calls, moment):
    """Return the number of clear moments that are less than a moment."""
    check_lane(lane)
    check_calls(calls)
    check_moment(moment)
    first = first_clear(lane, calls)
    if moment <= first:
        return 0
    times = round_from(calls, first)
    rounds, rest = divmod(moment - first, times[-1])
    return rounds * (len(times) - 1) + len([after for after in times if after < rest])


def clear_cycles(calls):
    """Return the cycles of the clear moments, as ascending lists of the indexes of calls."""
    check_calls(calls)
    leads = {at: (at + gap + 1) % len(calls) for at, gap in enumerate(gaps_in_order(calls))}
    return [sorted(cycle) for cycle in cycles_in(leads)]
