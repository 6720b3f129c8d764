"""The ticks that are passed to functions (points 5 and 6)."""

from watervalves.errors import InvalidTick

LAST_TICK = 10 ** 18
MOST_TRACED = 500


def check_tick(tick):
    """Raise InvalidTick unless this is a tick."""
    if not is_within(tick, 0, LAST_TICK):
        raise InvalidTick("a tick is an integer from 0 to 10 ** 18")


def check_span(first, last):
    """Raise InvalidTick unless the ticks from the first to the last one can be traced."""
    check_tick(first)
    latest = min(first + MOST_TRACED - 1, LAST_TICK)
    if not is_within(last, first - 1, latest):
        raise InvalidTick("the last tick is too early or too late for the first one")


def is_within(number, low, high):
    """Tell whether this is an integer in a range; True and False are none."""
    if not isinstance(number, int) or isinstance(number, bool):
        return False
    return low <= number <= high
