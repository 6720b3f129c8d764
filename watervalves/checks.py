"""What a plan must keep to beyond the grammar (point 3)."""

from watervalves.errors import CheckFault

MOST_TICKS = 60
MOST_OPEN = 9
MOST_VALVES = 8
MOST_WATER = 30
MOST_STARTS = 20


class Checker:
    """Checks statements in the order of the text and raises CheckFault at the first error.

    Each check stands where its token stands in the text, so the first one that fails is
    the first error of the text.
    """

    def __init__(self):
        self.period = 0
        self.names = []
        self.starts = 0
        self.ranks = 0

    def check(self, statement):
        """Check one statement."""
        word = statement.keyword.text
        if word == "round":
            self.period = _limited(statement.numbers[0], 1, MOST_TICKS, "round")
        elif word == "open":
            _limited(statement.numbers[0], 1, MOST_OPEN, "open")
        elif word == "valves":
            self.check_valves(statement)
        elif word == "start":
            self.check_start(statement)
        elif word == "pause":
            self.check_pause(statement)
        else:
            self.check_rank(statement)

    def check_valves(self, statement):
        """Check the valves of the plan and keep their names."""
        for token in statement.names:
            if token.text in self.names:
                raise CheckFault("duplicate", token.line, token.column)
            if len(self.names) == MOST_VALVES:
                raise CheckFault("valves", token.line, token.column)
            self.names.append(token.text)

    def check_start(self, statement):
        """Check a start: how many there are, its valve, its tick, its water."""
        self.starts += 1
        if self.starts > MOST_STARTS:
            raise CheckFault("starts", statement.keyword.line, statement.keyword.column)
        self.check_known(statement.names[0])
        tick, water = statement.numbers
        _limited(tick, 0, self.period - 1, "tick")
        _limited(water, 1, MOST_WATER, "length")

    def check_pause(self, statement):
        """Check the two ticks of a pause, the last one first."""
        first, last = statement.numbers
        latest = _limited(last, 0, self.period - 1, "pause")
        _limited(first, 0, latest, "pause")

    def check_rank(self, statement):
        """Check the valves of a rank."""
        self.ranks += 1
        if self.ranks > 1:
            raise CheckFault("twice", statement.keyword.line, statement.keyword.column)
        seen = []
        for token in statement.names:
            self.check_known(token)
            if token.text in seen:
                raise CheckFault("rank", token.line, token.column)
            seen.append(token.text)

    def check_known(self, token):
        """Check that a name is that of a valve."""
        if token.text not in self.names:
            raise CheckFault("unknown", token.line, token.column)


def check_statements(statements):
    """Raise CheckFault for the first error in the text, if there is one."""
    checker = Checker()
    for statement in statements:
        checker.check(statement)


def _limited(token, low, high, reason):
    """Return the number of a token, or raise the error with this reason."""
    number = int(token.text)
    if number < low or number > high:
        raise CheckFault(reason, token.line, token.column)
    return number
