"""What several tests need: calls that take a plan, errors as tuples, and a plain model."""

from watervalves.comparison import first_difference, first_error
from watervalves.controller import Controller
from watervalves.counting import (
    count_lost,
    count_openings,
    late_valves,
    longest_delay,
    nth_opening,
    opening_ticks,
    water,
)
from watervalves.encoding import encode
from watervalves.errors import CheckFault, GardenError, SyntaxFault, TooLong
from watervalves.formatter import format_plan, valves
from watervalves.machine import find_cycle, open_valves, trace, waiting
from watervalves.planning import idle_pauses, least_open, plan_shifts
from watervalves.watching import Meter

BASE = "round 6; open 1; valves a b; start a 0 for 2; start b 1 for 2;"
# The situations of this plan do not come again early: it raises TooLong.
LONG = "round 1; open 3; valves a b c; start a 0 for 29; start b 0 for 28; start c 0 for 27;"
FAR = 10 ** 18
# What is no tick and no number.
WRONG_KINDS = (True, False, None, "0", "", (0,), [0], [], ())
# What is no valve of BASE or LONG.
WRONG_NAMES = ("", "z", "A", "a ", "ab", "round", True, False, None, 0, 1, (), [], ("a",), ["a"], [["a"]])

# Every function that takes a plan and runs it, as a function of the plan alone.
RUNS = {
    "open_valves": lambda plan: open_valves(plan, 0),
    "waiting": lambda plan: waiting(plan, 0),
    "trace": lambda plan: list(trace(plan, 0, 0)),
    "find_cycle": lambda plan: find_cycle(plan),
    "count_openings": lambda plan: count_openings(plan, "a", 9),
    "count_lost": lambda plan: count_lost(plan, "a", 9),
    "water": lambda plan: water(plan, "a", 9),
    "opening_ticks": lambda plan: opening_ticks(plan, "a"),
    "nth_opening": lambda plan: nth_opening(plan, "a", 2),
    "longest_delay": lambda plan: longest_delay(plan),
    "late_valves": lambda plan: late_valves(plan),
    "least_open": lambda plan: least_open(plan),
    "plan_shifts": lambda plan: plan_shifts(plan, 2),
    "idle_pauses": lambda plan: idle_pauses(plan),
    "first_difference": lambda plan: first_difference(plan, plan),
    "first_error": lambda plan: first_error(plan, []),
    "Meter": lambda plan: Meter(plan).candidates,
}
# Every function that takes a plan and does not look for its cycle.
OTHERS = {
    "format_plan": format_plan,
    "valves": valves,
    "encode": encode,
    "Controller": lambda plan: Controller(plan).step(9),
    "Controller.replay": lambda plan: Controller.replay(plan, [("step", 9)]).used,
}
# Every function that takes a plan.
CALLS = {
    "first_difference with a first plan": lambda plan: first_difference(BASE, plan),
    **OTHERS,
    **RUNS,
}


def syntax_place(call, plan):
    """Return the line and the column of the SyntaxFault that a call raises."""
    try:
        call(plan)
    except SyntaxFault as fault:
        return fault.line, fault.column
    return None


def check_fault(call, plan):
    """Return the reason, the line and the column of the CheckFault that a call raises."""
    try:
        call(plan)
    except CheckFault as fault:
        return fault.reason, fault.line, fault.column
    return None


def outcome(call, *arguments):
    """Return what a call returns, or the name and the attributes of the error that it raises."""
    try:
        return call(*arguments)
    except GardenError as fault:
        return type(fault).__name__, vars(fault)


def spoil(found):
    """Change all that can be changed in a result."""
    if isinstance(found, dict):
        for part in found.values():
            spoil(part)
        found.clear()
    if isinstance(found, (list, tuple)):
        for part in found:
            spoil(part)
    if isinstance(found, list):
        found.append("z")


class Model:
    """Runs a plan, given by its parts, by the words of point 5 and nothing else.

    starts are tuples (name, tick, water) in the order of the plan, rank has all valves.
    """

    def __init__(self, period, limit, names, rank, starts, paused):
        self.period, self.limit, self.names, self.rank = period, limit, names, rank
        self.starts, self.paused = starts, paused
        self.tick = 0
        self.left = {}
        self.queues = {name: [] for name in names}
        self.used = {name: 0 for name in names}

    def situation(self):
        queues = tuple((name, tuple(queue)) for name, queue in self.queues.items())
        return self.tick % self.period, tuple(sorted(self.left.items())), queues

    def step(self, rains=False):
        """Run one tick; return its events, the watering valves and the waiting requests."""
        phase = self.tick % self.period
        events, wet = [], []
        for name in self.names:
            for other, tick, water in self.starts:
                if other == name and tick == phase:
                    events.append((self.tick, "ask", name))
                    if len(self.queues[name]) == 2:
                        events.append((self.tick, "lost", name))
                    else:
                        self.queues[name].append(water)
        if phase not in self.paused and not rains:
            for name in self.rank:
                if name not in self.left and self.queues[name] and len(self.left) < self.limit:
                    self.left[name] = self.queues[name].pop(0)
                    events.append((self.tick, "open", name))
            for name in self.names:
                if name in self.left:
                    wet.append(name)
                    self.used[name] += 1
                    self.left[name] -= 1
                    if self.left[name] == 0:
                        del self.left[name]
                        events.append((self.tick, "close", name))
        self.tick += 1
        return events, wet, {name: list(queue) for name, queue in self.queues.items()}


class Drawn:
    """A plan that is drawn by a seeded source: its parts and its text.

    An easy plan has few requests for the length of its round, and may well be calm.
    """

    def __init__(self, source, easy=False):
        self.period = source.randint(1, source.choice((10, 25) if easy else (4, 10, 25)))
        self.waters = (1, 2, 3) if easy else (2, 5, 30)
        self.limit = source.randint(1, 4)
        letters = list("abcdefgh")
        source.shuffle(letters)
        self.names = letters[: source.randint(1, 8)]
        ranked = source.sample(self.names, source.randint(0, len(self.names)))
        self.rank = ranked + [name for name in self.names if name not in ranked]
        self.starts = [self.draw_start(source) for _ in range(source.randint(0, 5 if easy else 9))]
        self.pauses = [self.draw_pause(source) for _ in range(source.randint(0, 3))]
        self.paused = sorted({tick for first, last in self.pauses for tick in range(first, last + 1)})
        self.text = self.write(source, ranked)

    def draw_start(self, source):
        water = source.randint(1, source.choice(self.waters))
        return source.choice(self.names), source.randrange(self.period), water

    def draw_pause(self, source):
        first = source.randrange(self.period)
        return first, source.randint(first, min(first + 2, self.period - 1))

    def write(self, source, ranked):
        """Return a text in which the rank and the pauses stand among the starts."""
        rows = [f"start {name} {tick} for {water};" for name, tick, water in self.starts]
        for first, last in self.pauses:
            rows.insert(source.randint(0, len(rows)), f"pause {first} {last};")
        if ranked:
            rows.insert(source.randint(0, len(rows)), f"rank {' '.join(ranked)};")
        head = f"round {self.period};open {self.limit};valves {' '.join(self.names)};"
        return head + source.choice((" ", "\n", "")).join(rows)

    def model(self):
        return Model(self.period, self.limit, self.names, self.rank, self.starts, self.paused)

    def run(self, ticks):
        """Return what the steps of the model return for the first ticks."""
        model = self.model()
        return [model.step() for _ in range(ticks)]


def draw_repeating(source, most, easy=False):
    """Draw a plan whose first cycle ends soon; return it with the beginning and the length."""
    while True:
        plan = Drawn(source, easy)
        try:
            begin, length = find_cycle(plan.text)
        except TooLong:
            continue
        if begin + length <= most:
            return plan, begin, length
