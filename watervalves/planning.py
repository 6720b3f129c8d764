"""Finds out how a plan becomes calm, and which pauses are idle (point 9)."""

from watervalves.arguments import check_count
from watervalves.calm import is_calm, most_open
from watervalves.canon import plan_text
from watervalves.course import run_course
from watervalves.errors import TooManyStarts
from watervalves.garden import Garden, read_plan

MOST_SHIFTS = 12
MOST_SHIFTED = 6


def least_open(plan):
    """Return the least number of valves that must be able to be open, or None."""
    garden = read_plan(plan)
    # Only for its error TooLong.
    run_course(garden)
    most = most_open(garden, garden.starts)
    if most is None:
        return None
    return max(1, most)


def plan_shifts(plan, limit):
    """Return the fewest shifts in all, those of each start and the new plan, or None."""
    garden = read_plan(plan)
    check_count(limit, 0, MOST_SHIFTS)
    if len(garden.starts) > MOST_SHIFTED:
        raise TooManyStarts("only six starts can be shifted")
    # Only for its error TooLong; a calm plan always repeats early.
    run_course(garden)
    for total in range(limit + 1):
        shifts = _find_shifts(garden, [], total)
        if shifts is not None:
            return total, shifts, plan_text(_replace_starts(garden, _shift(garden, shifts)))
    return None


def idle_pauses(plan):
    """Return the paused ticks of the round without each of which the same valves would water.

    Without its pause, a tick is the same as with it if nothing is open or waits then;
    otherwise a valve would water that does not.
    """
    garden = read_plan(plan)
    course = run_course(garden)
    idle = list(garden.dry)
    for tick, happening in enumerate(course.happenings):
        left, queues = course.situations[tick]
        if len(happening.asked) > 0 or any(left) or any(queues):
            idle[tick % garden.period] = False
    return [tick for tick in range(garden.period) if idle[tick]]


def _find_shifts(garden, shifts, rest):
    """Return the first calm list of shifts that begins with these and adds a rest to them."""
    left_out = garden.starts[len(shifts) :]
    if len(left_out) == 0 and rest > 0:
        return None
    # More starts never make a plan calm, so these must be calm already.
    if not is_calm(garden, _shift(garden, shifts)):
        return None
    if len(left_out) == 0:
        return shifts
    last_shift = garden.period - 1 - left_out[0][0]
    for shift in range(min(rest, last_shift) + 1):
        found = _find_shifts(garden, shifts + [shift], rest - shift)
        if found is not None:
            return found
    return None


def _shift(garden, shifts):
    """Return as many of the starts as there are shifts, each one later by its shift."""
    return [(tick + shift, valve, many) for (tick, valve, many), shift in zip(garden.starts, shifts)]


def _replace_starts(garden, starts):
    return Garden(garden.period, garden.limit, garden.names, garden.rank, starts, garden.dry)
