"""Finds out what a water meter tells of a plan (point 11)."""

from watervalves.arguments import check_count, check_tick
from watervalves.checks import MOST_VALVES
from watervalves.errors import Contradiction
from watervalves.flow import list_flows
from watervalves.garden import read_plan


class Meter:
    """Reads how many valves water, and keeps the candidates that agree with it.

    A candidate is a tuple of the number of `open` and the tick of the round with which
    the plan began.
    """

    def __init__(self, plan):
        self._flows = list_flows(read_plan(plan))
        self._remaining = list(self._flows)
        self._accepted = []

    def see(self, tick, count):
        """Observe how many valves water in a tick; return how many candidates remain."""
        return self._observe([(tick, count)])

    def see_from(self, first, *counts):
        """Observe how many valves water in successive ticks, all of them or none."""
        check_tick(first)
        return self._observe([(first + step, count) for step, count in enumerate(counts)])

    @property
    def candidates(self):
        """The list of the candidates that remain, in ascending order."""
        return list(self._remaining)

    @property
    def history(self):
        """The list of all accepted observations, tuples (tick, number)."""
        return list(self._accepted)

    def possible(self, tick):
        """Return the ascending list of how many valves can water in a tick."""
        check_tick(tick)
        return sorted({self._flows[candidate].count_at(tick) for candidate in self._remaining})

    def _observe(self, observations):
        """Accept these observations, or raise the error of the first one that is refused."""
        remaining = self._remaining
        for tick, count in observations:
            check_tick(tick)
            check_count(count, 0, MOST_VALVES)
            remaining = [one for one in remaining if self._flows[one].count_at(tick) == count]
            if len(remaining) == 0:
                raise Contradiction("no candidate agrees with all that was observed")
        self._remaining = remaining
        self._accepted = self._accepted + observations
        return len(remaining)
