"""Values and a slow model that several tests share."""

from itertools import permutations, product

CALLS = (0, 1, 2, 1)


def nested(levels):
    value = (0,)
    for _ in range(levels):
        value = (value,)
    return value


class Thing:
    """A value of a foreign class, which has no hash and equals everything."""

    def __eq__(self, other):
        return True


def common_wrong():
    """Values that are neither a lane, nor calls, nor a car, nor days, nor a case; new at each call."""
    return [
        "", "0", "0 1", "-", b"", b"\x00\x01", True, False, -1, -10 ** 63, 10 ** 64, 10 ** 5000,
        [], [0], [0, 1], [None], {}, {0: 1}, {None: 0}, set(), {0, 1}, frozenset({0}), range(2), iter((0, 1)),
        (True,), (False,), (0, True), (False, 1), (None,), (0, None), (60,), (-1,), (0, 60), (0, -1),
        ("0",), (b"0",), ("",), ([],), ([0],), ({},), (set(),), ((),), ((0,),), (0, (1,)), (10 ** 63,), nested(18),
        tuple(range(61)), Thing(), Thing, (Thing(),), object(), len, int,
    ]


def wrong_lanes():
    return [*common_wrong(), None, 0, 59, (0, 0), (0, 1, 0), (59, 3, 59), tuple(range(60)) + (0,), (7,) * 300]


def wrong_calls():
    return [*common_wrong(), None, 0, 59, (), (0,) * 201, tuple(range(60)) * 4, (1,) * 300]


def wrong_cars():
    return [*common_wrong(), None, (), (0,), 60, 61, 10 ** 30]


def wrong_days():
    return [*common_wrong(), None, (), (0,), 10 ** 30 + 1, 10 ** 31, -10 ** 30]


def wrong_live_days():
    """Values that are no number of days that a live lane performs."""
    return [*wrong_days(), 0]


def wrong_moments():
    return [*common_wrong(), None, (), (0,), 10 ** 36 + 1, 10 ** 37, -10 ** 36]


def wrong_indexes():
    return [*common_wrong(), None, (), (0,), 10 ** 30 + 1, 10 ** 36, -10 ** 30]


def wrong_sizes():
    return [*common_wrong(), None, (), (0,), 61, 200, 10 ** 30, -60]


def same_map(cars):
    """The case map of so many cars in which all stay."""
    return {None: None, **{car: car for car in range(cars)}}


def wrong_maps():
    return [
        *common_wrong(), None, (), 0, ((None, None),), [(None, None)], {None: 0, 0: 0}, {None: None, 0: None},
        {None: 1, 0: None}, {None: 0, 0: 1}, {None: None, 0: 1, 1: 1}, {None: None, 0: 1, 1: 2}, {None: None, 0: 1},
        {0: 0}, {0: 1, 1: 0}, {None: None, True: True}, {None: True, True: None}, {None: None, False: False},
        {None: True, 1: None}, {None: None, 1: True}, {None: False, 0: None}, {None: None, 60: 60},
        {None: 60, 60: None}, {None: None, -1: -1}, {None: None, "0": "0"}, {None: None, (0,): (0,)},
        {None: [], 0: None}, {None: None, 0: [0]}, {None: {}, 0: None}, {None: Thing(), 0: None}, {Thing: Thing},
        {None: None, 0: set()}, {"": None, None: ""}, {None: None, 10 ** 63: 10 ** 63}, same_map(61),
    ]


def wrong_small_maps():
    """Values that are no case map of at most 9 cars."""
    return [*wrong_maps(), same_map(10), same_map(60), {None: 59, **{car: car for car in range(50, 59)}, 59: None}]


def levels(count, times=2):
    """A program of this depth, with one step on each level."""
    program = (0,)
    for _ in range(count - 1):
        program = ((times, program),)
    return program


def steps_in_all(count):
    """A program of this number of steps in all, from 187 to 246, and four steps of its own."""
    repeated = (2, tuple(range(60)))
    return (repeated, repeated, repeated, (3, (7,) * (count - 184)))


def many_times():
    """A value of eight levels in which the same tuple stands again and again."""
    value = (0,) * 60
    for _ in range(7):
        value = ((2, value),) * 60
    return value


def wrong_programs():
    return [
        *common_wrong(), None, (), 0, 59, (0,) * 61, tuple(range(60)) + (0,), (7,) * 300, ((2, (0,) * 61),),
        steps_in_all(201), levels(9), levels(9, times=10 ** 30), many_times(), (levels(8), 0), (2, (0,)),
        ((0, (1,)),), ((-1, (1,)),), ((10 ** 30 + 1, (1,)),), ((True, (1,)),), ((False, (1,)),), ((None, (1,)),),
        (("2", (1,)),), ((2, ()),), ((2,),), ((2, (1,), 3),), ((2, (1,), (1,)),), (((1,), 2),), ((2, 1),),
        ((2, [1]),), ([2, (1,)],), ((2, (True,)),), ((2, (60,)),), ((2, (-1,)),), ((2, (None,)),), ((2, None),),
        (0, (2, (1, ()))), (0, (2, (1, (3, ())))), ((2, {0: 1}),), (0, {}), ((2, (1,)), []), ((2, (Thing(),)),),
        ((Thing(), (1,)),),
    ]


def wrong_texts():
    """Values that are neither the text of a lane nor that of a program, which may be the text of calls or not."""
    return [
        *[value for value in common_wrong() if value not in ("0", "0 1", "-")], None, 0, (), (0,), ["0"], ("0",), b"0",
        " ", "  ", " 0", "0 ", "0  1", "0 1 ", " 0 1", "0\n", "\n0", "0\n1", "0\t1", "0,1", "0, 1", "(0, 1)", "[0]",
        "00", "01", "0 01", "007", "60", "61", "99", "0 60", "100", "-1", "- 1", "-0", "+1", "--", "- -", " -", "- ",
        "0 -", "- 0", "None", "True", "a", "0a", "0x1", "1_0", "1.0", "1e1", "0;1", "\u0661", "\u00b2", "0 \u0662",
        "1" * 31, "1" * 32, "1" * 3000, "9" * 5000, "0 " * 2000, "()", "*", "*(", "(0)", "0()", "0(1)", "*(0)", "2*0",
        "2*()", "2*(", "2*)", "2*(0", "2(0)", "2*0)", "0)", "2 *(0)", "2* (0)", "2*( 0)", "2*(0 )", "2*(0))",
    ]


def wrong_lane_texts():
    return [
        *wrong_texts(), "0 0", "0 1 0", "59 3 59", "2*(0)", "0 3*(1 2) 1",
        " ".join([str(car) for car in (*range(60), 0)]), " ".join(["7"] * 300),
    ]


def wrong_program_texts():
    return [
        *wrong_texts(), "-", "2*(-)", "0*(1)", "00*(1)", "02*(1)", "-2*(1)", "2*(60)", "2*(01)", "2*(0  1)", "2*(0)(1)",
        "2*(0)1", "2*(0)*(1)", "2*(0)3*(1)", "2*2*(0)", "2**(0)", "2*((0))", "2*(3)*(0)", "*(2*(0))", "2*(3*(0) 1",
        "2*(3*(0))) 1", "2*(0)  1", "2*(0) ", " 2*(0)", "2*(0)\n", "2*(0\n1)", "2 *(0)", "2x(0)", "2*[0]", "(2, (0,))",
        f"{10 ** 30 + 1}*(0)", f"{10 ** 31}*(0)", f"{'9' * 32}*(0)", f"{'1' * 5000}*(0)", "0" * 31 + "1*(0)",
        " ".join(["7"] * 61), f"2*({' '.join(['7'] * 61)})", "2*(" * 8 + "0" + ")" * 8, "2*(" * 1300 + "0" + ")" * 1300,
        "2*(" * 1300, ")" * 1300, "2*(" * 1300 + "0", " ".join([f"2*({' '.join(['7'] * 49)})"] * 4 + ["3"]),
    ]


def wrong_operations():
    """Values that have none of the forms of an operation."""
    return [
        *common_wrong(), None, (), 0, "call", ("call",), ("repeat",), ("repeat", CALLS), ("run",), ("undo",), ("log",),
        ("call", 1, 2), ("repeat", CALLS, 2, 3), ("run", (0,), 1), ["call", 1], ["repeat", CALLS, 1], ["run", (0,)],
        ("Call", 1), ("call ", 1), ("cal", 1), ("calls", 1), ("", 1), (b"call", 1), (None, 1), (0, 1), (True, 1),
        (("call", 1),), ("call", "call", 1), (1, "call"), ("lane", ()), ("has", 1), ("preview", ("call", 1)),
        ([], 1), ({}, 1), (set(), 1), (["call"], 1), (("call",), 1), (Thing(), 1), ("run", (0,), ()), {"call": 1},
    ]


def wrong_rows():
    """Values that are no row of a console in which a live lane and calls are there."""
    return [
        *common_wrong(), None, (), 0, " ", "\n", "x", "help", "Show", "SHOW", "sho", "shows", "show ", " show",
        "show 1", "show\n", "\nshow", "show -", "undo ", " undo", "undo 1", "period ", "period 1", "map ", "map 0",
        "genus ", "genus -", "undo\n", "map\n", "lane", "calls", "run", "route", "lane\n", "lane\n1", "lane 1\n",
        "lane 1\n2", "lane \n", "calls 1\n", "run 1\n", "run 2*(\n1)", "route 1\n", "lane\t1", "lane1", "lane-",
        " lane 1", "Lane 1", "lanes 1", "call", "days", "after", "clear", "call ", "days ", "after ", "clear ",
        "call  1", "call 1 ", " call 1", "call 1 2", "call -", "call -1", "call +1", "call 01", "call 00", "call x",
        "call 1.0", "call 1x", "call 1_0", "call 0x1", "call\n1", "call 1\n", "call None", "call (1)", "call1",
        "days  1", "days 1 ", "days 01", "days 00", "days -1", "days 1 1", "days x", "days 1e1", "days 1\n",
        "after  1", "after 1 ", "after 007", "after -1", "after x", "clear  1", "clear 1 ", "clear 01", "clear -1",
        "clear x", "call " + "1" * 32, "days " + "1" * 32, "after " + "1" * 32, "clear " + "1" * 32,
        "call " + "0" * 31, "days " + "0" * 30 + "1", "call " + "9" * 3000, "clear " + "9" * 5000, "call \u0661",
        "days \u00b2", "push 1", "lane=1", ["show"], b"show", ("show",), "show show", "map genus", "call call 1",
        "lane: 1", "-", "0", "0 1",
    ]


def wrong_cases():
    """Values that are no case of CALLS."""
    return [*common_wrong(), (), (0,), 3, 59, 60, 10 ** 30]


def wrong_ends():
    """Lanes that are no end lane of CALLS."""
    return [(1, 2), (2,), (0, 1), (0, 1, 2), (2, 1, 0), (3,), (7, 1), (7, 2, 1), (0, 7), (7, 0), tuple(range(60))]


def all_calls(cars, most):
    """All calls of the first so many cars, 1 to `most` of them."""
    for size in range(1, most + 1):
        yield from product(range(cars), repeat=size)


def all_lanes(cars):
    """All lanes of these cars."""
    cars = sorted(cars)
    for size in range(len(cars) + 1):
        yield from permutations(cars, size)


def long_calls():
    """Some long calls of many cars."""
    return [
        tuple(range(60)),
        tuple(range(59, -1, -1)),
        tuple(at * at * 7 // 3 % 60 for at in range(200)),
        tuple(at * 11 % 37 for at in range(150)),
        tuple((at * at * at + at // 5) % 13 for at in range(90)),
        (59,) * 200,
        (0, 59) * 100,
    ]


def slow_call(lane, car):
    """The lane after a call, car by car."""
    kept = []
    for other in lane:
        if other == car:
            return tuple(kept)
        kept.append(other)
    return (*kept, car)


def slow_day(lane, calls):
    """The lane after a day, call by call."""
    for car in calls:
        lane = slow_call(lane, car)
    return lane


def slow_counted_day(lane, calls):
    """The lane after a day, and what happens in it: cars that drive in, cars that leave and are forced, lengths."""
    entering = []
    leaving = []
    forced = []
    lengths = [len(lane)]
    for car in calls:
        after = slow_call(lane, car)
        if car not in lane:
            entering.append(car)
        gone = lane[len(after):]
        leaving.extend(gone)
        forced.extend(gone[1:])
        lengths.append(len(after))
        lane = after
    return lane, (entering, leaving, forced, max(lengths))


def slow_count(lane, calls, days):
    """What happens in so many days: how many cars drive in and leave, {car: how often it is forced}, greatest length.

    Days are played until one begins as another one did; from then on they are counted by rounds.
    """
    begun = {}
    told = []
    most = len(lane)
    while len(told) < days and lane not in begun:
        begun[lane] = len(told)
        lane, day = slow_counted_day(lane, calls)
        told.append(day)
    first = begun[lane] if len(told) < days else len(told)
    counts = [0, 0, {}]
    for at, (entering, leaving, forced, longest) in enumerate(told):
        # As many days as begin like this one.
        times = 1 if at < first else 1 + (days - 1 - at) // (len(told) - first)
        counts[0] += times * len(entering)
        counts[1] += times * len(leaving)
        for car in forced:
            counts[2][car] = counts[2].get(car, 0) + times
        most = max(most, longest)
    return (*counts, most)


def crossed(calls):
    """Whether two cars cross in calls."""
    indexes = range(len(calls))
    return any(
        calls[i] == calls[k] and calls[j] == calls[m] and calls[i] != calls[j]
        for i in indexes for j in indexes[i + 1:] for k in indexes[j + 1:] for m in indexes[k + 1:]
    )


def slow_map(calls):
    """The case map of calls, exchange by exchange, with the cars that they call."""
    leads = {}
    for case in [None, *sorted(set(calls))]:
        now = case
        for car in calls:
            now = {None: car, car: None}.get(now, now)
        leads[case] = now
    return leads


def all_maps(cars):
    """All case maps of these cars."""
    cases = [None, *cars]
    for leads in permutations(cases):
        yield dict(zip(cases, leads))
