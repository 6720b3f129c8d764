"""Plans in which each request is opened in the tick in which it comes (point 9)."""


def is_calm(garden, starts):
    """Tell whether a garden with these starts in place of its own would be calm."""
    most = most_open(garden, starts)
    return most is not None and most <= garden.limit


def most_open(garden, starts):
    """Return how many valves must be able to be open for these starts to be calm.

    None if no number is enough. In the first round fewer valves are open than in the
    later ones, which are all the same, so that one round tells all.
    """
    users = [[] for _ in range(garden.period)]
    for tick, valve, ticks_of_water in starts:
        phases = _open_phases(garden, tick, ticks_of_water)
        if phases is None:
            return None
        for phase in phases:
            if valve in users[phase]:
                return None
            users[phase].append(valve)
    return max([len(valves) for valves in users])


def _open_phases(garden, tick, ticks_of_water):
    """Return the ticks of the round in which a valve is open if it is opened at once.

    None if it comes in a pause, or comes again before it is closed.
    """
    if garden.dry[tick]:
        return None
    phases = []
    left = ticks_of_water
    for step in range(garden.period):
        phase = (tick + step) % garden.period
        phases.append(phase)
        if not garden.dry[phase]:
            left -= 1
        if left == 0:
            return phases
    return None
