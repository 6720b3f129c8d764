"""What happens in one tick (point 5)."""

MOST_WAITING = 2


class State:
    """The situation of all valves between two ticks.

    left: for each valve how many ticks of water are left, 0 if it is closed;
    queues: for each valve the ticks of water of its waiting requests, the oldest first.
    """

    def __init__(self, many):
        self.left = [0] * many
        self.queues = [[] for _ in range(many)]

    def freeze(self):
        """Return the situation as two tuples that do not change with the state."""
        return tuple(self.left), tuple([tuple(queue) for queue in self.queues])

    def count_open(self):
        """Return how many valves are open."""
        return len(self.left) - self.left.count(0)

    def ask(self, valve, water):
        """Let a request for a valve wait, behind the others; return whether it is lost."""
        if len(self.queues[valve]) >= MOST_WAITING:
            return True
        self.queues[valve].append(water)
        return False

    def duplicate(self):
        """Return a new state that is the same."""
        state = State(len(self.left))
        state.left = list(self.left)
        state.queues = [list(queue) for queue in self.queues]
        return state


class Happening:
    """What happened in a tick, with the numbers of the valves, in the order of events.

    asked has tuples (valve, whether the request was lost).
    """

    def __init__(self):
        self.asked = []
        self.opened = []
        self.watered = []
        self.closed = []


def run_tick(garden, state, phase, rains=False):
    """Let one tick pass, given by its place in the round, and return what happened.

    In rain it passes as if it were in a pause.
    """
    happening = Happening()
    _take_requests(garden, state, phase, happening)
    if not rains and not garden.dry[phase]:
        _open_valves(garden, state, happening)
        _let_water(state, happening)
    return happening


def _take_requests(garden, state, phase, happening):
    for valve, water in garden.requests[phase]:
        happening.asked.append((valve, state.ask(valve, water)))


def _open_valves(garden, state, happening):
    room = garden.limit - state.count_open()
    for valve in garden.rank:
        queue = state.queues[valve]
        if room > 0 and state.left[valve] == 0 and len(queue) > 0:
            state.left[valve] = queue.pop(0)
            room -= 1
            happening.opened.append(valve)


def _let_water(state, happening):
    for valve in range(len(state.left)):
        if state.left[valve] > 0:
            state.left[valve] -= 1
            happening.watered.append(valve)
            if state.left[valve] == 0:
                happening.closed.append(valve)
