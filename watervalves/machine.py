"""Tells what the valves do in a tick (points 5 and 6)."""

from watervalves.arguments import check_span, check_tick
from watervalves.course import run_course
from watervalves.garden import read_plan


def open_valves(plan, tick):
    """Return the list of the valves that water in a tick."""
    garden = read_plan(plan)
    check_tick(tick)
    happening = run_course(garden).happening(tick)
    return [garden.names[valve] for valve in happening.watered]


def waiting(plan, tick):
    """Return a dict from each valve to the ticks of water of its requests after a tick."""
    garden = read_plan(plan)
    check_tick(tick)
    queues = run_course(garden).queues_after(tick)
    return {name: list(queue) for name, queue in zip(garden.names, queues)}


def trace(plan, first, last):
    """Yield tuples (tick, word, valve) for what happens from the first to the last tick."""
    garden = read_plan(plan)
    check_span(first, last)
    course = run_course(garden)
    for tick in range(first, last + 1):
        for word, valve in _events(course.happening(tick)):
            yield tick, word, garden.names[valve]


def find_cycle(plan):
    """Return a tuple of the first tick and the number of ticks of the cycle."""
    course = run_course(read_plan(plan))
    return course.begin, course.length


def _events(happening):
    """Return tuples (word, valve) for all that happened in a tick, in order."""
    events = []
    for valve, lost in happening.asked:
        events.append(("ask", valve))
        if lost:
            events.append(("lost", valve))
    events.extend([("open", valve) for valve in happening.opened])
    events.extend([("close", valve) for valve in happening.closed])
    return events
