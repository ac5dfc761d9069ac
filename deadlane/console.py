"""The console: it executes rows of words on a live lane and tells what came of them."""

from deadlane.crossings import genus
from deadlane.days import after_days, day_map, period
from deadlane.errors import NoRow
from deadlane.live import LiveLane
from deadlane.moments import nth_clear
from deadlane.plans import route
from deadlane.texts import EMPTY, is_number, read_calls, read_lane, read_program, show_lane, text_of

# The words with which rows begin: what follows them, and what must be there before they are said.
WITH_TEXT = ("lane", "calls", "run", "route")
WITH_NUMBER = ("call", "days", "after", "clear")
ALONE = ("undo", "show", "period", "map", "genus")
WITHOUT_LANE = ("lane", "calls", "map", "genus")
OF_CALLS = ("days", "after", "clear", "period", "map", "genus")
CHANGING = ("lane", "calls", "call", "days", "run", "undo")


def parts_of_row(row):
    """Return the first word of a row and what stands behind its space; raise NoRow if the row is not of any form."""
    if isinstance(row, str) and "\n" not in row:
        word, space, rest = row.partition(" ")
        # A text may be empty, but the space before it must be there; a word alone has none.
        if row in ALONE or (word in WITH_TEXT and space == " ") or (word in WITH_NUMBER and is_number(rest)):
            return word, rest
    raise NoRow("a row is a word of the console, with a text or a number behind a space where the word needs it")


def text_of_case(case):
    """Return the text of a case."""
    return EMPTY if case is None else str(case)


def text_of_map(leads):
    """Return the text of a day map."""
    return " ".join([f"{text_of_case(case)}>{text_of_case(led)}" for case, led in leads.items()])


class Console:
    """A live lane and calls, and the rows that are said about them."""

    def __init__(self):
        self._live = None
        self._calls = None

    def _check_there(self, word):
        """Raise NoRow if a row with this word needs a live lane or kept calls that are not there."""
        if self._live is None and word not in WITHOUT_LANE:
            raise NoRow("the row needs a live lane")
        if self._calls is None and word in OF_CALLS:
            raise NoRow("the row needs kept calls")

    def _change(self, word, rest):
        """Execute a row that may change the live lane or the kept calls."""
        match word:
            case "lane":
                self._live = LiveLane(read_lane(rest))
            case "calls":
                self._calls = read_calls(rest)
            case "undo":
                self._live.undo()
            case "call":
                return show_lane(self._live.call(int(rest)))
            case "days":
                return show_lane(self._live.repeat(self._calls, days=int(rest)))
            case "run":
                return show_lane(self._live.run(read_program(rest)))
        return "ok"

    def _tell(self, word, rest):
        """Execute a row that changes nothing."""
        match word:
            case "show":
                return show_lane(self._live.lane)
            case "after":
                return show_lane(after_days(self._live.lane, self._calls, days=int(rest)))
            case "clear":
                return str(nth_clear(self._live.lane, self._calls, int(rest)))
            case "period":
                return str(period(self._live.lane, self._calls))
            case "map":
                return text_of_map(day_map(self._calls))
            case "genus":
                return str(genus(self._calls))
        return text_of(route(self._live.lane, read_lane(rest)))

    def say(self, row):
        """Execute a row and return what it tells."""
        word, rest = parts_of_row(row)
        self._check_there(word)
        return self._change(word, rest) if word in CHANGING else self._tell(word, rest)
