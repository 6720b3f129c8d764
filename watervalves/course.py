"""All ticks of a plan, by those until its situation comes again (point 6)."""

from watervalves.engine import State, run_tick
from watervalves.errors import TooLong

LAST_SEARCHED = 20000


class Course:
    """What happens in each tick.

    begin and length are those of the cycle; happenings and situations, which are those
    before the ticks, are known up to the end of the first cycle.
    """

    def __init__(self, begin, length, happenings, situations):
        self.begin = begin
        self.length = length
        self.happenings = happenings
        self.situations = situations

    def fold(self, tick):
        """Return the first tick in which the same happens as in this one."""
        if tick < self.begin:
            return tick
        return self.begin + (tick - self.begin) % self.length

    def happening(self, tick):
        """Return what happens in a tick."""
        return self.happenings[self.fold(tick)]

    def queues_after(self, tick):
        """Return the waiting requests of each valve after a tick, as tuples."""
        _, queues = self.situations[self.fold(tick + 1)]
        return queues

    def add_up(self, amounts, ticks):
        """Return the sum over the first so many ticks of an amount that each happening has."""
        if ticks < self.begin:
            return sum(amounts[:ticks])
        cycles, rest = divmod(ticks - self.begin, self.length)
        return sum(amounts[: self.begin + rest]) + cycles * sum(amounts[self.begin :])


def run_course(garden):
    """Return the course of a plan; raise TooLong if no situation comes again early."""
    state = State(len(garden.names))
    happenings = []
    situations = []
    seen = {}
    for tick in range(LAST_SEARCHED + 1):
        phase = tick % garden.period
        situation = state.freeze()
        key = (phase, situation)
        if key in seen:
            return Course(seen[key], tick - seen[key], happenings, situations)
        seen[key] = tick
        situations.append(situation)
        happenings.append(run_tick(garden, state, phase))
    raise TooLong("no situation comes again up to tick 20,000")
