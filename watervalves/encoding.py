"""Encodes plans as lists of bytes (point 12)."""

from watervalves.arguments import is_within
from watervalves.canon import dry_runs, plan_text
from watervalves.checks import MOST_OPEN, MOST_STARTS, MOST_TICKS, MOST_VALVES, MOST_WATER
from watervalves.errors import InvalidCode
from watervalves.garden import Garden, read_plan
from watervalves.lexer import KEYWORDS, LETTERS, MOST_LETTERS

FIRST_BYTE = 87


def encode(plan):
    """Return the bytes of a plan, a list of integers."""
    garden = read_plan(plan)
    code = [FIRST_BYTE, garden.period, garden.limit, len(garden.names)]
    for name in garden.names:
        code.append(len(name))
        code.extend([LETTERS.index(letter) for letter in name])
    code.extend(garden.rank)
    code.append(len(garden.starts))
    for start in garden.starts:
        code.extend(start)
    runs = dry_runs(garden)
    code.append(len(runs))
    for run in runs:
        code.extend(run)
    code.append(_checksum(code))
    return code


def decode(code):
    """Return the canonical text of the plan of a list of bytes; raise InvalidCode."""
    if not isinstance(code, list):
        raise InvalidCode(0)
    reader = Reader(code)
    reader.take(FIRST_BYTE, FIRST_BYTE)
    period = reader.take(1, MOST_TICKS)
    limit = reader.take(1, MOST_OPEN)
    names = reader.take_names()
    rank = reader.take_rank(len(names))
    starts = reader.take_starts(period, len(names))
    dry = reader.take_dry(period)
    reader.take_end()
    return plan_text(Garden(period, limit, names, rank, starts, dry))


class Reader:
    """Takes the bytes of a list, one after another, and raises InvalidCode at the first fault."""

    def __init__(self, code):
        self.code = code
        self.taken = 0

    def take(self, low, high):
        """Return the next byte, which must be an integer in a range."""
        if self.taken == len(self.code) or not is_within(self.code[self.taken], low, high):
            raise InvalidCode(self.taken)
        self.taken += 1
        return self.code[self.taken - 1]

    def take_names(self):
        """Return the names of the valves."""
        names = []
        for _ in range(self.take(1, MOST_VALVES)):
            place = self.taken
            name = self.take_letters()
            if name in KEYWORDS or name in names:
                raise InvalidCode(place)
            names.append(name)
        return names

    def take_letters(self):
        """Return the letters of one name."""
        letters = []
        for _ in range(self.take(1, MOST_LETTERS)):
            letters.append(LETTERS[self.take(0, len(LETTERS) - 1)])
        return "".join(letters)

    def take_rank(self, many):
        """Return the numbers of so many valves, each of them once."""
        rank = []
        for _ in range(many):
            place = self.taken
            valve = self.take(0, many - 1)
            if valve in rank:
                raise InvalidCode(place)
            rank.append(valve)
        return rank

    def take_starts(self, period, many):
        """Return the starts, which stand in ascending order of their ticks, then their valves."""
        starts = []
        last_tick = 0
        last_valve = 0
        for _ in range(self.take(0, MOST_STARTS)):
            tick = self.take(last_tick, period - 1)
            if tick > last_tick:
                last_valve = 0
            valve = self.take(last_valve, many - 1)
            water = self.take(1, MOST_WATER)
            starts.append((tick, valve, water))
            last_tick = tick
            last_valve = valve
        return starts

    def take_dry(self, period):
        """Return for each tick of the round whether it is in one of the runs."""
        dry = [False] * period
        earliest = 0
        for _ in range(self.take(0, period)):
            first = self.take(earliest, period - 1)
            last = self.take(first, period - 1)
            for tick in range(first, last + 1):
                dry[tick] = True
            # The tick in between keeps the runs apart: without it they would be one.
            earliest = last + 2
        return dry

    def take_end(self):
        """Take the checksum, behind which nothing may stand."""
        checksum = _checksum(self.code[: self.taken])
        self.take(checksum, checksum)
        if self.taken < len(self.code):
            raise InvalidCode(self.taken)


def _checksum(code):
    """Return the byte that stands behind these."""
    return sum(code) % 256
