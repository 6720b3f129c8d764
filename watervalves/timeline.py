"""The operations of a controller, and how to go back (point 13)."""

from watervalves.arguments import check_count, find_valve
from watervalves.checks import MOST_WATER
from watervalves.engine import State, run_tick
from watervalves.errors import QueueFull

MOST_STEPPED = 500


class Moment:
    """A garden between two ticks.

    ticks: how many have passed; state: the situation; watered: for each valve in how many
    ticks it watered.
    """

    def __init__(self, ticks, state, watered):
        self.ticks = ticks
        self.state = state
        self.watered = watered

    def duplicate(self):
        """Return a new moment that is the same."""
        return Moment(self.ticks, self.state.duplicate(), list(self.watered))

    def pass_tick(self, garden, rains):
        """Let one tick pass and return what happened."""
        happening = run_tick(garden, self.state, self.ticks % garden.period, rains)
        self.ticks += 1
        for valve in happening.watered:
            self.watered[valve] += 1
        return happening


class Timeline:
    """The complete state of a controller: now, and what `undo` and `redo` would do.

    past: tuples (word, moment before) of all operations in effect;
    future: tuples (word, moment behind) of those that were undone, the last one last.
    A moment that stands here is never changed, so that several timelines may share it.
    """

    def __init__(self, garden):
        many = len(garden.names)
        self.garden = garden
        self.now = Moment(0, State(many), [0] * many)
        self.past = []
        self.future = []

    def duplicate(self):
        """Return a new timeline that is the same."""
        timeline = Timeline(self.garden)
        timeline.now = self.now
        timeline.past = list(self.past)
        timeline.future = list(self.future)
        return timeline

    def step(self, count):
        """Let ticks pass; return the list of the names that water for each of them."""
        check_count(count, 0, MOST_STEPPED)
        moment = self.now.duplicate()
        rows = []
        for _ in range(count):
            happening = moment.pass_tick(self.garden, False)
            rows.append([self.garden.names[valve] for valve in happening.watered])
        self._enter("step", moment)
        return rows

    def rain(self, count):
        """Let ticks pass without water; return how many requests are lost in them."""
        check_count(count, 0, MOST_STEPPED)
        moment = self.now.duplicate()
        many = 0
        for _ in range(count):
            happening = moment.pass_tick(self.garden, True)
            many += len([valve for valve, lost in happening.asked if lost])
        self._enter("rain", moment)
        return many

    def request(self, name, water):
        """Add a request for a valve; return how many wait for it then."""
        valve = find_valve(self.garden.names, name)
        check_count(water, 1, MOST_WATER)
        moment = self.now.duplicate()
        if moment.state.ask(valve, water):
            raise QueueFull("too many requests wait for the valve")
        self._enter("request", moment)
        return len(moment.state.queues[valve])

    def shut(self, name):
        """Close a valve; return how many ticks of water were left."""
        valve = find_valve(self.garden.names, name)
        moment = self.now.duplicate()
        left = moment.state.left[valve]
        moment.state.left[valve] = 0
        self._enter("shut", moment)
        return left

    def undo(self):
        """Undo the last operation in effect; return whether there was one."""
        if len(self.past) == 0:
            return False
        word, before = self.past.pop()
        self.future.append((word, self.now))
        self.now = before
        return True

    def redo(self):
        """Repeat the operation that was undone last; return whether there was one."""
        if len(self.future) == 0:
            return False
        word, behind = self.future.pop()
        self.past.append((word, self.now))
        self.now = behind
        return True

    def _enter(self, word, moment):
        """Enter an operation that was executed, and the moment behind it."""
        self.past.append((word, self.now))
        self.future = []
        self.now = moment
