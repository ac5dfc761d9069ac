"""Live lanes: a lane that changes with each operation, and can take operations back."""

from deadlane.days import check_days, lane_after
from deadlane.errors import NoDays, NoOperation, Nothing
from deadlane.lanes import check_calls, check_car, check_lane, is_car, step
from deadlane.programs import after_program

# The number of items of an operation, the name included.
SIZES = {"call": 2, "repeat": 3, "run": 2}


def is_operation(value):
    """Tell whether `value` has one of the forms of a log, whatever its items behind the name are."""
    if not isinstance(value, tuple) or not value or not isinstance(value[0], str):
        return False
    return SIZES.get(value[0]) == len(value)


def after_repeating(lane, calls, days):
    """Return the lane after so many days, at least one."""
    check_calls(calls)
    check_days(days)
    if days == 0:
        raise NoDays("a live lane repeats calls on at least one day")
    return lane_after(lane, calls, days)


def after_operation(lane, operation):
    """Return the lane after an operation as it is written in a log; raise its error."""
    if operation[0] == "call":
        check_car(operation[1])
        return step(lane, operation[1])
    if operation[0] == "repeat":
        return after_repeating(lane, operation[1], operation[2])
    return after_program(lane, operation[1])


class LiveLane:
    """A lane on which operations are performed, and the operations that are not undone."""

    CARS = 60

    def __init__(self, lane=()):
        check_lane(lane)
        self._lane = lane
        self._done = []
        # The lane before each of these operations, since not every operation can be played backwards.
        self._lanes = []

    @classmethod
    def of(cls, *cars):
        """Return a live lane of the arguments."""
        return cls(cars)

    @property
    def lane(self):
        """The present lane."""
        return self._lane

    @property
    def innermost(self):
        """The innermost car, or None if there is none."""
        return self._lane[0] if self._lane else None

    def _perform(self, operation):
        """Perform an operation as it is written in a log; change nothing if it raises an error."""
        after = after_operation(self._lane, operation)
        self._done.append(operation)
        self._lanes.append(self._lane)
        self._lane = after

    def call(self, car):
        """Perform a call and return the cars that leave."""
        before = self._lane
        self._perform(("call", car))
        return before[len(self._lane):]

    def repeat(self, calls, *, days=1):
        """Perform so many days and return the lane after them."""
        self._perform(("repeat", calls, days))
        return self._lane

    def run(self, program):
        """Perform the calls of a program and return the lane after them."""
        self._perform(("run", program))
        return self._lane

    def undo(self):
        """Revert the last operation that is not undone."""
        if not self._done:
            raise Nothing("there is no operation that is not undone")
        self._done.pop()
        self._lane = self._lanes.pop()

    def log(self):
        """Return the list of the operations that are not undone."""
        return list(self._done)

    def preview(self, *operations):
        """Return the lane after operations as they are written in a log, without performing them on this lane."""
        for operation in operations:
            if not is_operation(operation):
                raise NoOperation("an operation is a tuple as a log holds it: of a call, of days or of a program")
        lane = self._lane
        for operation in operations:
            lane = after_operation(lane, operation)
        return lane

    def has(self, value):
        """Tell whether `value` is a car in the lane."""
        return is_car(value) and value in self._lane

    def __len__(self):
        return len(self._lane)

    def __eq__(self, other):
        return isinstance(other, LiveLane) and self._lane == other._lane
