"""Counts openings, lost requests and water, and measures delays (points 7 and 8)."""

from watervalves.arguments import check_count, check_tick, find_valve
from watervalves.course import run_course
from watervalves.delays import list_requests
from watervalves.garden import read_plan

MOST_OPENINGS = 10 ** 18


def count_openings(plan, name, ticks):
    """Return how often a valve is opened in the first so many ticks."""
    return _add_up(plan, name, ticks, lambda happening, valve: happening.opened.count(valve))


def count_lost(plan, name, ticks):
    """Return how many requests of a valve are lost in the first so many ticks."""
    return _add_up(plan, name, ticks, lambda happening, valve: happening.asked.count((valve, True)))


def water(plan, name, ticks):
    """Return in how many of the first so many ticks a valve waters."""
    return _add_up(plan, name, ticks, lambda happening, valve: happening.watered.count(valve))


def opening_ticks(plan, name):
    """Return the ticks in which a valve is opened: those before the cycle, and those in it."""
    garden = read_plan(plan)
    valve = find_valve(garden.names, name)
    return _list_openings(run_course(garden), valve)


def nth_opening(plan, name, number):
    """Return the tick in which a valve is opened for the n-th time, or None."""
    garden = read_plan(plan)
    valve = find_valve(garden.names, name)
    check_count(number, 1, MOST_OPENINGS)
    course = run_course(garden)
    before, inside = _list_openings(course, valve)
    if number <= len(before):
        return before[number - 1]
    if len(inside) == 0:
        return None
    cycles, index = divmod(number - 1 - len(before), len(inside))
    return inside[index] + cycles * course.length


def longest_delay(plan):
    """Return a tuple of the greatest delay and the valve and the tick of the first such request.

    The delay is None if a request waits for ever; None stands for a plan without requests.
    """
    garden = read_plan(plan)
    requests = list_requests(run_course(garden), len(garden.names))
    if len(requests) == 0:
        return None
    longest = requests[0]
    for request in requests:
        if _is_longer(request.delay, longest.delay):
            longest = request
    return longest.delay, garden.names[longest.valve], longest.tick


def late_valves(plan):
    """Return the valves for which a request comes while an earlier one waits or is opened."""
    garden = read_plan(plan)
    course = run_course(garden)
    late = [False] * len(garden.names)
    for happening, (left, queues) in zip(course.happenings, course.situations):
        asked = [valve for valve, _ in happening.asked]
        for valve in asked:
            if left[valve] > 0 or len(queues[valve]) > 0 or asked.count(valve) > 1:
                late[valve] = True
    return [name for name, comes_late in zip(garden.names, late) if comes_late]


def _add_up(plan, name, ticks, amount):
    """Return the sum over the first ticks of an amount of what happens and a valve."""
    garden = read_plan(plan)
    valve = find_valve(garden.names, name)
    check_tick(ticks)
    course = run_course(garden)
    return course.add_up([amount(happening, valve) for happening in course.happenings], ticks)


def _list_openings(course, valve):
    ticks = [tick for tick, happening in enumerate(course.happenings) if valve in happening.opened]
    before = [tick for tick in ticks if tick < course.begin]
    return before, ticks[len(before) :]


def _is_longer(delay, other):
    """Tell whether a delay is longer than another one; None is the longest."""
    if other is None:
        return False
    return delay is None or delay > other
