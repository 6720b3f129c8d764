"""Compares plans with each other and with logs (point 10)."""

from watervalves.course import run_course
from watervalves.errors import DifferentValves
from watervalves.garden import read_plan, read_plans


def first_difference(plan, other):
    """Return the first tick in which different valves water, with both lists, or None."""
    gardens = read_plans([plan, other])
    if sorted(gardens[0].names) != sorted(gardens[1].names):
        raise DifferentValves("the plans do not have the same valves")
    one, two = [run_course(garden) for garden in gardens]
    # What repeats after m and after n ticks, and is equal for m + n ticks, is equal for ever.
    for tick in range(max(one.begin, two.begin) + one.length + two.length):
        names = _watering_names(gardens[0], one, tick)
        other_names = _watering_names(gardens[1], two, tick)
        if names != other_names:
            return tick, names, other_names
    return None


def first_error(plan, log):
    """Return the index of the first item that does not name the watering valves, or None."""
    garden = read_plan(plan)
    course = run_course(garden)
    if not isinstance(log, list):
        return 0
    for index, item in enumerate(log):
        if item != _watering_names(garden, course, index):
            return index
    return None


def _watering_names(garden, course, tick):
    """Return the ascending list of the names of the valves that water in a tick."""
    return sorted([garden.names[valve] for valve in course.happening(tick).watered])
