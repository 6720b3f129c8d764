"""The tokens of a plan (point 2)."""

from watervalves.errors import SyntaxFault

KEYWORDS = ("round", "open", "valves", "start", "for", "pause", "rank")
LETTERS = "abcdefghijklmnopqrstuvwxyz"
DIGITS = "0123456789"
MOST_LETTERS = 8
MOST_DIGITS = 2


class Token:
    """A token, its kind, and where it begins."""

    def __init__(self, kind, text, line, column):
        self.kind = kind
        self.text = text
        self.line = line
        self.column = column


def read_tokens(plan):
    """Return the list of all tokens; raise SyntaxFault at the first one that is invalid."""
    if not isinstance(plan, str):
        # What is no text has no lines: the fault is where a text would begin.
        raise SyntaxFault(0, 0)
    tokens = []
    for line, row in enumerate(plan.split("\n")):
        tokens.extend(_row_tokens(row, line))
    return tokens


def count_lines(plan):
    """Return one more than the number of line feeds."""
    return plan.count("\n") + 1


def _row_tokens(row, line):
    tokens = []
    column = 0
    while column < len(row):
        if row[column] == " ":
            column += 1
        else:
            token = _token_at(row, line, column)
            tokens.append(token)
            column += len(token.text)
    return tokens


def _token_at(row, line, column):
    if row[column] == ";":
        return Token(";", ";", line, column)
    word = _run_of(LETTERS, row, column)
    if word != "" and len(word) <= MOST_LETTERS:
        return Token(_word_kind(word), word, line, column)
    number = _run_of(DIGITS, row, column)
    if _is_number(number):
        return Token("number", number, line, column)
    raise SyntaxFault(line, column)


def _run_of(allowed, row, column):
    """Return the longest text from a column on that has only allowed characters."""
    end = column
    while end < len(row) and row[end] in allowed:
        end += 1
    return row[column:end]


def _word_kind(word):
    """Return the keyword itself for a keyword, so that each is a kind of its own."""
    if word in KEYWORDS:
        return word
    return "name"


def _is_number(digits):
    if digits == "" or len(digits) > MOST_DIGITS:
        return False
    return digits == "0" or digits[0] != "0"
