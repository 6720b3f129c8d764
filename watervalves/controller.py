"""Runs a plan tick by tick, with undo, snapshots and batches (points 13 and 14)."""

from watervalves.errors import GardenError, InvalidName, InvalidOperation, UnknownName
from watervalves.garden import read_plan
from watervalves.lexer import LETTERS, MOST_LETTERS
from watervalves.operations import check_list, check_operation, execute
from watervalves.timeline import Timeline


class Controller:
    """Runs a plan from the beginning, as it is told."""

    def __init__(self, plan):
        self._timeline = Timeline(read_plan(plan))
        self._snapshots = {}

    def step(self, count):
        """Let ticks pass; return the list of the valves that water for each of them."""
        return self._timeline.step(count)

    def rain(self, count):
        """Let ticks pass as if they were in a pause; return how many requests are lost."""
        return self._timeline.rain(count)

    def request(self, name, water):
        """Add a request for a valve by hand; return how many wait for it then."""
        return self._timeline.request(name, water)

    def shut(self, name):
        """Close a valve by hand; return how many ticks of water were left."""
        return self._timeline.shut(name)

    def undo(self):
        """Undo the last operation in effect; return whether there was one."""
        return self._timeline.undo()

    def redo(self):
        """Repeat the operation that was undone last; return whether there was one."""
        return self._timeline.redo()

    @property
    def passed(self):
        """The number of ticks that have passed."""
        return self._timeline.now.ticks

    @property
    def used(self):
        """A dict from each valve to in how many ticks it watered."""
        names = self._timeline.garden.names
        return dict(zip(names, self._timeline.now.watered))

    @property
    def running(self):
        """A dict from each open valve to how many ticks of water are left."""
        names = self._timeline.garden.names
        state = self._timeline.now.state
        return {name: left for name, left in zip(names, state.left) if left > 0}

    @property
    def queued(self):
        """A dict from each valve to the ticks of water of its waiting requests."""
        names = self._timeline.garden.names
        state = self._timeline.now.state
        return {name: list(queue) for name, queue in zip(names, state.queues)}

    @property
    def operations(self):
        """The list of the words of all operations in effect."""
        return [word for word, _ in self._timeline.past]

    def save(self, name):
        """Save the complete state under a name."""
        if not _is_name(name):
            raise InvalidName("a name has one to eight letters a to z")
        self._snapshots[name] = self._timeline.duplicate()

    def restore(self, name):
        """Restore the complete state that was saved under a name."""
        if not _is_name(name) or name not in self._snapshots:
            raise UnknownName("no snapshot has this name")
        self._timeline = self._snapshots[name].duplicate()

    def batch(self, operations):
        """Execute operations, all or none; return the list of their results."""
        check_list(operations)
        for place, operation in enumerate(operations):
            check_operation(place, operation)
        # If one fails, its error leaves the controller's own timeline as it is.
        timeline = self._timeline.duplicate()
        results = []
        for operation in operations:
            results.append(execute(timeline, operation))
        self._timeline = timeline
        return results

    @classmethod
    def replay(cls, plan, operations):
        """Return a new controller after executing operations on it."""
        controller = cls(plan)
        check_list(operations)
        for place, operation in enumerate(operations):
            check_operation(place, operation)
            try:
                execute(controller._timeline, operation)
            except GardenError as fault:
                raise InvalidOperation(place) from fault
        return controller


def _is_name(name):
    """Tell whether a snapshot can have this name."""
    if not isinstance(name, str) or not 1 <= len(name) <= MOST_LETTERS:
        return False
    return all([letter in LETTERS for letter in name])
