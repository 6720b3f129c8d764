"""Controllers to compare with, and what the tests of controllers need."""

import copy

from watervalves.controller import Controller

ARGUMENTS = {"step": 1, "rain": 1, "request": 2, "shut": 1, "undo": 0, "redo": 0}


class Refused(Exception):
    """The outcome of an operation that fails: the name of its error and the attributes."""

    def __init__(self, name, **attributes):
        super().__init__(name)
        self.outcome = (name, attributes)


def is_number(thing, low, high):
    return type(thing) is int and low <= thing <= high


def play(model, operation):
    """Execute one operation on a model of the plan and return its result."""
    word, *arguments = operation
    if word in ("step", "rain"):
        if not is_number(arguments[0], 0, 500):
            raise Refused("InvalidCount")
        steps = [model.step(word == "rain") for _ in range(arguments[0])]
        if word == "step":
            return [wet for _, wet, _ in steps]
        return sum([event[1] == "lost" for events, _, _ in steps for event in events])
    name = arguments[0]
    if type(name) is not str or name not in model.names:
        raise Refused("UnknownValve")
    if word == "shut":
        return model.left.pop(name, 0)
    if not is_number(arguments[1], 1, 30):
        raise Refused("InvalidCount")
    if len(model.queues[name]) == 2:
        raise Refused("QueueFull")
    model.queues[name].append(arguments[1])
    return len(model.queues[name])


class Played:
    """A controller by the words of points 13 and 14 that keeps nothing but its operations.

    It knows the operations in effect and those that were undone, and plays them anew each time.
    """

    def __init__(self, plan):
        self.plan = plan
        self.done, self.undone, self.saved = [], [], {}

    def model(self):
        model = self.plan.model()
        for operation in self.done:
            play(model, operation)
        return model

    def do(self, *operation):
        """Return the outcome of an operation, of a snapshot or of a batch."""
        word, *arguments = operation
        try:
            return getattr(self, f"do_{word}", self.execute)(operation, *arguments)
        except Refused as refused:
            return refused.outcome

    def execute(self, operation, *_):
        result = play(self.model(), operation)
        self.done, self.undone = [*self.done, operation], []
        return result

    def do_undo(self, _):
        if not self.done:
            return False
        self.done, self.undone = self.done[:-1], [*self.undone, self.done[-1]]
        return True

    def do_redo(self, _):
        if not self.undone:
            return False
        self.done, self.undone = [*self.done, self.undone[-1]], self.undone[:-1]
        return True

    def do_save(self, _, name):
        if type(name) is not str or not 1 <= len(name) <= 8 or set(name) - set("abcdefghijklmnopqrstuvwxyz"):
            raise Refused("InvalidName")
        self.saved[name] = self.done, self.undone

    def do_restore(self, _, name):
        if type(name) is not str or name not in self.saved:
            raise Refused("UnknownName")
        self.done, self.undone = self.saved[name]

    def do_batch(self, _, operations):
        if type(operations) is not list:
            raise Refused("InvalidOperation", place=0)
        for place, entry in enumerate(operations):
            if not self.is_well_formed(entry):
                raise Refused("InvalidOperation", place=place)
        before = self.done, self.undone
        results = []
        for entry in operations:
            result = self.do(*entry)
            if isinstance(result, tuple):
                self.done, self.undone = before
                return result
            results.append(result)
        return results

    def is_well_formed(self, entry):
        if type(entry) is not tuple or not entry or type(entry[0]) is not str:
            return False
        return ARGUMENTS.get(entry[0]) == len(entry) - 1

    def view(self):
        """Return what the properties of a controller are."""
        model = self.model()
        return {
            "passed": model.tick,
            "used": model.used,
            "running": {name: model.left[name] for name in model.names if name in model.left},
            "queued": model.queues,
            "operations": [operation[0] for operation in self.done],
        }


def view(controller):
    """Return copies of all properties of a controller, with the order of its dicts."""
    found = {
        "passed": controller.passed,
        "used": list(controller.used.items()),
        "running": list(controller.running.items()),
        "queued": list(controller.queued.items()),
        "operations": controller.operations,
    }
    return copy.deepcopy(found)


def told(plan, *operations):
    """Return a controller after some operations."""
    controller = Controller(plan)
    for word, *arguments in operations:
        getattr(controller, word)(*arguments)
    return controller


def draw_operation(source, names, deep=True):
    """Draw an operation, deep also a snapshot or a batch; some of them are wrong."""
    kinds = ["step", "step", "rain", "request", "request", "shut", "undo", "undo", "redo"]
    word = source.choice(kinds + ["save", "restore", "batch"] * deep)
    if word in ("step", "rain"):
        return word, source.choice((0, 1, 1, 2, 3, 7, source.randint(0, 40), -1 if source.random() < 0.2 else 1))
    if word in ("undo", "redo"):
        return (word,)
    if word in ("save", "restore"):
        return word, source.choice(("x", "y", "z", "x", "y", "longname", "toolonger", "", None, 1, ["x"]))
    if word == "batch":
        entries = [draw_operation(source, names, False) for _ in range(source.randint(0, 4))]
        if source.random() < 0.15:
            entries.insert(source.randint(0, len(entries)), source.choice(((), ("step",), ["undo"], None, ("save", "x"))))
        return word, entries
    name = source.choice([*names, *names, source.choice(("zz", None, True, 0, ["a"]))])
    if word == "shut":
        return word, name
    return word, name, source.choice((1, 2, 5, 30, source.randint(1, 30), source.choice((0, 31, True, "1"))))
