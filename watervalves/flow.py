"""How many valves water in each tick, by each candidate of a meter (point 11)."""

from watervalves.checks import MOST_OPEN
from watervalves.course import LAST_SEARCHED
from watervalves.engine import State, run_tick
from watervalves.errors import TooLong
from watervalves.garden import Garden


class Flow:
    """How many valves water in each tick: counts, up to the end of the first cycle.

    begin is the tick with which the cycle begins.
    """

    def __init__(self, begin, counts):
        self.begin = begin
        self.counts = counts

    def count_at(self, tick):
        """Return how many valves water in a tick."""
        if tick < len(self.counts):
            return self.counts[tick]
        length = len(self.counts) - self.begin
        return self.counts[self.begin + (tick - self.begin) % length]

    def lead(self, counts, place):
        """Return the flow that has these counts first and then those of this one from a place on."""
        if place <= self.begin:
            return Flow(len(counts) + self.begin - place, counts + self.counts[place:])
        return Flow(len(counts), counts + self.counts[place:] + self.counts[self.begin : place])


def list_flows(garden):
    """Return a dict from each candidate, in ascending order, to its flow; raise TooLong."""
    many = len(garden.names)
    runs = [_run_flows(garden, limit) for limit in range(1, many + 1)]
    flows = {}
    for limit in range(1, MOST_OPEN + 1):
        # More valves than there are cannot be open: all such numbers are alike.
        for first, flow in enumerate(runs[min(limit, many) - 1]):
            flows[(limit, first)] = flow
    return flows


def _run_flows(garden, limit):
    """Return the flows with this number of `open` that begin with each tick of the round."""
    limited = Garden(garden.period, limit, garden.names, garden.rank, garden.starts, garden.dry)
    flows = []
    known = {}
    for first in range(garden.period):
        flow, places = _run_flow(limited, first, known)
        for situation, place in places.items():
            known[situation] = (flow, place)
        flows.append(flow)
    return flows


def _run_flow(garden, first, known):
    """Return the flow that begins with a tick of the round, and a dict of its new situations.

    known has, for each situation of an earlier flow, that flow and the place of the
    situation in it: from there on both are the same, so that only what leads there is run.
    """
    state = State(len(garden.names))
    counts = []
    places = {}
    situation = (first, state.freeze())
    while situation not in known and situation not in places:
        _check_length(len(counts) + 1)
        places[situation] = len(counts)
        phase, _ = situation
        counts.append(len(run_tick(garden, state, phase).watered))
        situation = ((phase + 1) % garden.period, state.freeze())
    if situation in places:
        return Flow(places[situation], counts), places
    other, place = known[situation]
    flow = other.lead(counts, place)
    _check_length(len(flow.counts))
    return flow, places


def _check_length(ticks):
    """Raise TooLong if the first cycle, with what is before it, has more ticks than allowed."""
    if ticks > LAST_SEARCHED:
        raise TooLong("no situation of a candidate comes again up to tick 20,000")
