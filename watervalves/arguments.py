"""The arguments of functions, apart from plans (points 5 to 9)."""

from watervalves.errors import InvalidCount, InvalidTick, UnknownValve

LAST_TICK = 10 ** 18
MOST_TRACED = 500


def check_tick(tick):
    """Raise InvalidTick unless this is a tick, or a number of ticks."""
    if not is_within(tick, 0, LAST_TICK):
        raise InvalidTick("a tick is an integer from 0 to 10 ** 18")


def check_span(first, last):
    """Raise InvalidTick unless the ticks from the first to the last one can be traced."""
    check_tick(first)
    latest = min(first + MOST_TRACED - 1, LAST_TICK)
    if not is_within(last, first - 1, latest):
        raise InvalidTick("the last tick is too early or too late for the first one")


def check_count(number, low, high):
    """Raise InvalidCount unless this is an integer in a range."""
    if not is_within(number, low, high):
        raise InvalidCount(f"the number is no integer from {low} to {high}")


def find_valve(names, name):
    """Return the number of the valve of a name; raise UnknownValve if there is none."""
    if name not in names:
        raise UnknownValve("the plan has no such valve")
    return names.index(name)


def is_within(number, low, high):
    """Tell whether this is an integer in a range; True and False are none."""
    if not isinstance(number, int) or isinstance(number, bool):
        return False
    return low <= number <= high
