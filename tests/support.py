"""What several tests need: calls that take a plan, errors as tuples, and a plain model."""

from watervalves.errors import CheckFault, SyntaxFault
from watervalves.formatter import format_plan, valves
from watervalves.machine import find_cycle, open_valves, trace, waiting

BASE = "round 6; open 1; valves a b; start a 0 for 2; start b 1 for 2;"

# Every function that takes a plan, as a function of the plan alone.
CALLS = {
    "format_plan": format_plan,
    "valves": valves,
    "open_valves": lambda plan: open_valves(plan, 0),
    "waiting": lambda plan: waiting(plan, 0),
    "trace": lambda plan: list(trace(plan, 0, 0)),
    "find_cycle": find_cycle,
}


def syntax_place(call, plan):
    """Return the line and the column of the SyntaxFault that a call raises."""
    try:
        call(plan)
    except SyntaxFault as fault:
        return fault.line, fault.column
    return None


def check_fault(call, plan):
    """Return the reason, the line and the column of the CheckFault that a call raises."""
    try:
        call(plan)
    except CheckFault as fault:
        return fault.reason, fault.line, fault.column
    return None


class Model:
    """Runs a plan, given by its parts, by the words of point 5 and nothing else.

    starts are tuples (name, tick, water) in the order of the plan, rank has all valves.
    """

    def __init__(self, period, limit, names, rank, starts, paused):
        self.period, self.limit, self.names, self.rank = period, limit, names, rank
        self.starts, self.paused = starts, paused
        self.tick = 0
        self.left = {}
        self.queues = {name: [] for name in names}

    def situation(self):
        queues = tuple((name, tuple(queue)) for name, queue in self.queues.items())
        return self.tick % self.period, tuple(sorted(self.left.items())), queues

    def step(self):
        """Run one tick; return its events, the watering valves and the waiting requests."""
        phase = self.tick % self.period
        events, wet = [], []
        for name in self.names:
            for other, tick, water in self.starts:
                if other == name and tick == phase:
                    events.append((self.tick, "ask", name))
                    if len(self.queues[name]) == 2:
                        events.append((self.tick, "lost", name))
                    else:
                        self.queues[name].append(water)
        if phase not in self.paused:
            for name in self.rank:
                if name not in self.left and self.queues[name] and len(self.left) < self.limit:
                    self.left[name] = self.queues[name].pop(0)
                    events.append((self.tick, "open", name))
            for name in self.names:
                if name in self.left:
                    wet.append(name)
                    self.left[name] -= 1
                    if self.left[name] == 0:
                        del self.left[name]
                        events.append((self.tick, "close", name))
        self.tick += 1
        return events, wet, {name: list(queue) for name, queue in self.queues.items()}


class Drawn:
    """A plan that is drawn by a seeded source: its parts and its text."""

    def __init__(self, source):
        self.period = source.randint(1, source.choice((4, 10, 25)))
        self.limit = source.randint(1, 4)
        letters = list("abcdefgh")
        source.shuffle(letters)
        self.names = letters[: source.randint(1, 8)]
        ranked = source.sample(self.names, source.randint(0, len(self.names)))
        self.rank = ranked + [name for name in self.names if name not in ranked]
        self.starts = [self.draw_start(source) for _ in range(source.randint(0, 9))]
        self.pauses = [self.draw_pause(source) for _ in range(source.randint(0, 3))]
        self.paused = sorted({tick for first, last in self.pauses for tick in range(first, last + 1)})
        self.text = self.write(source, ranked)

    def draw_start(self, source):
        water = source.randint(1, source.choice((2, 5, 30)))
        return source.choice(self.names), source.randrange(self.period), water

    def draw_pause(self, source):
        first = source.randrange(self.period)
        return first, source.randint(first, min(first + 2, self.period - 1))

    def write(self, source, ranked):
        """Return a text in which the rank and the pauses stand among the starts."""
        rows = [f"start {name} {tick} for {water};" for name, tick, water in self.starts]
        for first, last in self.pauses:
            rows.insert(source.randint(0, len(rows)), f"pause {first} {last};")
        if ranked:
            rows.insert(source.randint(0, len(rows)), f"rank {' '.join(ranked)};")
        head = f"round {self.period};open {self.limit};valves {' '.join(self.names)};"
        return head + source.choice((" ", "\n", "")).join(rows)

    def model(self):
        return Model(self.period, self.limit, self.names, self.rank, self.starts, self.paused)
