"""Operations that are given as tuples of a word and arguments (point 14)."""

from watervalves.errors import InvalidOperation

# How many arguments stand behind each word.
ARGUMENTS = {"step": 1, "rain": 1, "request": 2, "shut": 1, "undo": 0, "redo": 0}


def check_list(operations):
    """Raise InvalidOperation unless this is a list."""
    if not isinstance(operations, list):
        raise InvalidOperation(0)


def check_operation(place, entry):
    """Raise InvalidOperation unless this is a tuple of a word and the right number of arguments."""
    if not _is_operation(entry):
        raise InvalidOperation(place)


def execute(timeline, operation):
    """Execute an operation that was checked, and return its result."""
    word = operation[0]
    if word == "step":
        return timeline.step(operation[1])
    if word == "rain":
        return timeline.rain(operation[1])
    if word == "request":
        return timeline.request(operation[1], operation[2])
    if word == "shut":
        return timeline.shut(operation[1])
    if word == "undo":
        return timeline.undo()
    return timeline.redo()


def _is_operation(entry):
    if not isinstance(entry, tuple) or len(entry) == 0:
        return False
    word = entry[0]
    if not isinstance(word, str) or word not in ARGUMENTS:
        return False
    return len(entry) == 1 + ARGUMENTS[word]
