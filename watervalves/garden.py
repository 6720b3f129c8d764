"""A plan that has been read and checked."""

from watervalves.checks import check_statements
from watervalves.parser import parse_plan


class Garden:
    """What a plan says; valves are numbered from 0 in the order behind `valves`.

    names: the names of the valves; rank: their numbers in the order of opening;
    starts: tuples (tick, valve, water) in the order of the canonical text;
    dry: for each tick of the round whether it is in a pause;
    requests: for each tick of the round the list of tuples (valve, water).
    """

    def __init__(self, period, limit, names, rank, starts, dry):
        self.period = period
        self.limit = limit
        self.names = names
        self.rank = rank
        # Sorting keeps the order of the plan for starts of one valve in one tick.
        self.starts = sorted(starts, key=lambda start: (start[0], start[1]))
        self.dry = dry
        self.requests = [[] for _ in range(period)]
        for tick, valve, water in self.starts:
            self.requests[tick].append((valve, water))


def read_plan(plan):
    """Return the garden of a plan; raise SyntaxFault or CheckFault."""
    return read_plans([plan])[0]


def read_plans(plans):
    """Return the gardens of plans; a SyntaxFault in any of them goes before a CheckFault."""
    parsed = [parse_plan(plan) for plan in plans]
    for statements in parsed:
        check_statements(statements)
    return [_build_garden(statements) for statements in parsed]


def _build_garden(statements):
    period = int(statements[0].numbers[0].text)
    limit = int(statements[1].numbers[0].text)
    names = [token.text for token in statements[2].names]
    rest = statements[3:]
    return Garden(period, limit, names, _rank(rest, names), _starts(rest, names), _dry(rest, period))


def _rank(statements, names):
    """Return the numbers of all valves: those that are ranked, then the others."""
    rank = []
    for statement in statements:
        if statement.keyword.text == "rank":
            rank = [names.index(token.text) for token in statement.names]
    return rank + [valve for valve in range(len(names)) if valve not in rank]


def _starts(statements, names):
    starts = []
    for statement in statements:
        if statement.keyword.text == "start":
            tick, water = [int(token.text) for token in statement.numbers]
            starts.append((tick, names.index(statement.names[0].text), water))
    return starts


def _dry(statements, period):
    dry = [False] * period
    for statement in statements:
        if statement.keyword.text == "pause":
            first, last = [int(token.text) for token in statement.numbers]
            for tick in range(first, last + 1):
                dry[tick] = True
    return dry
