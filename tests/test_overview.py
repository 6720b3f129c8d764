"""Point 1, as far as it speaks of every function, and the names of the interface."""

import inspect
import random
import unittest

from tests.support import BASE, CALLS, FAR, LONG, OTHERS, RUNS, spoil
from watervalves import comparison, controller, counting, encoding, formatter, machine, planning, watching
from watervalves.controller import Controller
from watervalves.errors import (
    CheckFault,
    DifferentValves,
    GardenError,
    InvalidCount,
    InvalidTick,
    SyntaxFault,
    TooLong,
    TooManyStarts,
    UnknownValve,
)
from watervalves.watching import Meter

WRONG = ("", "round 0; open 1; valves a;", "round 9; open 1; valves a a;")
CHECKED = "round 0; open 1; valves a;"
# Seven starts, and no situation that comes again early.
SEVEN = (
    "round 1; open 9; valves a b c d e f g; start a 0 for 29; start b 0 for 28; start c 0 for 27;"
    "start d 0 for 1; start e 0 for 1; start f 0 for 1; start g 0 for 1;"
)
# Each function of the interface with its parameters.
INTERFACE = {
    formatter: {"format_plan": ["plan"], "valves": ["plan"]},
    machine: {
        "open_valves": ["plan", "tick"],
        "waiting": ["plan", "tick"],
        "trace": ["plan", "first", "last"],
        "find_cycle": ["plan"],
    },
    counting: {
        "count_openings": ["plan", "name", "ticks"],
        "count_lost": ["plan", "name", "ticks"],
        "water": ["plan", "name", "ticks"],
        "opening_ticks": ["plan", "name"],
        "nth_opening": ["plan", "name", "number"],
        "longest_delay": ["plan"],
        "late_valves": ["plan"],
    },
    planning: {"least_open": ["plan"], "plan_shifts": ["plan", "limit"], "idle_pauses": ["plan"]},
    comparison: {"first_difference": ["plan", "other"], "first_error": ["plan", "log"]},
    encoding: {"encode": ["plan"], "decode": ["code"]},
}
# Each class of the interface with its methods and their parameters, and its properties.
CLASSES = {
    Meter: (
        watching,
        {
            "__init__": ["self", "plan"],
            "see": ["self", "tick", "count"],
            "see_from": ["self", "first", "counts"],
            "possible": ["self", "tick"],
        },
        ["candidates", "history"],
    ),
    Controller: (
        controller,
        {
            "__init__": ["self", "plan"],
            "step": ["self", "count"],
            "rain": ["self", "count"],
            "request": ["self", "name", "water"],
            "shut": ["self", "name"],
            "undo": ["self"],
            "redo": ["self"],
            "save": ["self", "name"],
            "restore": ["self", "name"],
            "batch": ["self", "operations"],
        },
        ["passed", "used", "running", "queued", "operations"],
    ),
}


class Repeating(unittest.TestCase):
    def test_a_call_gives_the_same_again(self):
        for name, call in CALLS.items():
            with self.subTest(name):
                first = call(BASE)
                self.assertEqual(call(BASE), first)

    def test_a_call_that_raises_changes_nothing(self):
        for name, call in CALLS.items():
            before = call(BASE)
            for plan in WRONG:
                with self.subTest(function=name, plan=plan):
                    self.assertRaises(GardenError, call, plan)
                    self.assertRaises(GardenError, call, plan)
                    self.assertEqual(call(BASE), before)

    def test_other_plans_in_between_change_nothing(self):
        other = "round 2; open 9; valves a b; start a 0 for 30; start b 1 for 30; pause 1 1;"
        for name, call in CALLS.items():
            with self.subTest(name):
                before = call(BASE)
                call(other)
                self.assertEqual(call(BASE), before)

    def test_any_order_of_calls_and_plans(self):
        plans = (BASE, "round 3; open 1; valves b a; start a 0 for 4; start b 1 for 1; pause 2 2;")
        before = {(name, plan): call(plan) for name, call in CALLS.items() for plan in plans}
        keys = list(before) * 3
        random.Random(61).shuffle(keys)
        for name, plan in keys:
            with self.subTest(function=name, plan=plan):
                self.assertEqual(CALLS[name](plan), before[name, plan])


class Results(unittest.TestCase):
    def test_the_caller_may_change_them(self):
        plan = "round 4; open 1; valves a b; start a 0 for 2; start b 1 for 1; start b 1 for 1; pause 2 2;"
        for name, call in CALLS.items():
            with self.subTest(name):
                before = repr(call(plan))
                spoil(call(plan))
                self.assertEqual(repr(call(plan)), before)


class Order(unittest.TestCase):
    """The order in which the errors of one call are checked."""

    def assert_order(self, call, *rows):
        for arguments, error in rows:
            with self.subTest(arguments):
                self.assertRaises(error, call, *arguments)

    def test_a_plan_and_a_tick(self):
        for call in (machine.open_valves, machine.waiting, lambda plan, tick: list(machine.trace(plan, tick, tick))):
            self.assert_order(
                call,
                (("", -1), SyntaxFault),
                ((None, None), SyntaxFault),
                ((CHECKED, -1), CheckFault),
                ((LONG, True), InvalidTick),
                ((LONG, FAR + 1), InvalidTick),
                ((LONG, FAR), TooLong),
            )

    def test_a_plan_a_valve_and_a_number_of_ticks(self):
        for call in (counting.count_openings, counting.count_lost, counting.water):
            self.assert_order(
                call,
                (("", "z", -1), SyntaxFault),
                ((None, None, None), SyntaxFault),
                ((CHECKED, "z", -1), CheckFault),
                ((LONG, "z", -1), UnknownValve),
                ((LONG, "z", 1), UnknownValve),
                ((LONG, "a", -1), InvalidTick),
                ((LONG, "a", 0), TooLong),
            )

    def test_opening_ticks(self):
        self.assert_order(
            counting.opening_ticks,
            (("", "z"), SyntaxFault),
            ((CHECKED, "z"), CheckFault),
            ((LONG, "z"), UnknownValve),
            ((LONG, "a"), TooLong),
        )

    def test_nth_opening(self):
        self.assert_order(
            counting.nth_opening,
            (("", "z", 0), SyntaxFault),
            ((CHECKED, "z", 0), CheckFault),
            ((LONG, "z", 0), UnknownValve),
            ((LONG, "a", 0), InvalidCount),
            ((LONG, "a", 1), TooLong),
        )

    def test_plan_shifts(self):
        self.assert_order(
            planning.plan_shifts,
            (("", -1), SyntaxFault),
            ((CHECKED, -1), CheckFault),
            ((SEVEN, -1), InvalidCount),
            ((SEVEN, 13), InvalidCount),
            ((SEVEN, 12), TooManyStarts),
            ((LONG, -1), InvalidCount),
            ((LONG, 0), TooLong),
        )

    def test_two_plans(self):
        other = "round 1; open 1; valves z;"
        self.assert_order(
            comparison.first_difference,
            (("", ""), SyntaxFault),
            (("", CHECKED), SyntaxFault),
            # The interface lists SyntaxFault before CheckFault, for whichever plan.
            ((CHECKED, ""), SyntaxFault),
            ((BASE, ""), SyntaxFault),
            ((CHECKED, other), CheckFault),
            ((BASE, CHECKED), CheckFault),
            ((LONG, other), DifferentValves),
            ((other, LONG), DifferentValves),
            ((LONG, LONG), TooLong),
        )

    def test_a_plan_and_a_log(self):
        self.assert_order(
            comparison.first_error,
            (("", None), SyntaxFault),
            ((CHECKED, None), CheckFault),
            ((LONG, None), TooLong),
            ((LONG, []), TooLong),
        )

    def test_a_fault_of_syntax_goes_before_one_of_the_checks(self):
        for name, call in CALLS.items():
            with self.subTest(name):
                self.assertRaises(SyntaxFault, call, "round 99; open 1; valves a; ;")

    def test_all_functions_that_run_a_plan_raise_too_long(self):
        for name, call in RUNS.items():
            with self.subTest(name):
                self.assertRaises(TooLong, call, LONG)

    def test_the_others_do_not(self):
        for name, call in OTHERS.items():
            with self.subTest(name):
                self.assertEqual(call(LONG), call(LONG))


class Names(unittest.TestCase):
    def test_functions_and_parameters(self):
        for module, functions in INTERFACE.items():
            for name, parameters in functions.items():
                with self.subTest(name):
                    function = getattr(module, name)
                    self.assertEqual(list(inspect.signature(function).parameters), parameters)
                    self.assertEqual(function.__module__, module.__name__)
                    self.assertEqual(function.__name__, name)

    def test_arguments_by_their_names(self):
        values = {"plan": BASE, "other": BASE, "log": [], "name": "a", "tick": 0, "ticks": 1}
        values.update({"first": 0, "last": 0, "number": 1, "limit": 1, "code": encoding.encode(BASE)})
        for module, functions in INTERFACE.items():
            for name, parameters in functions.items():
                with self.subTest(name):
                    arguments = {word: values[word] for word in parameters}
                    function = getattr(module, name)
                    first = function(*arguments.values())
                    second = function(**arguments)
                    if name == "trace":
                        first, second = list(first), list(second)
                    self.assertEqual(first, second)

    def test_classes(self):
        for kind, (module, methods, properties) in CLASSES.items():
            with self.subTest(kind.__name__):
                self.assertEqual(kind.__module__, module.__name__)
                found = {name for name, thing in vars(kind).items() if callable(thing)}
                self.assertEqual({name for name in found if name[0] != "_"}, set(methods) - {"__init__"})
                for name, parameters in methods.items():
                    self.assertEqual(list(inspect.signature(vars(kind)[name]).parameters), parameters)
                for name in properties:
                    self.assertIsInstance(vars(kind)[name], property)

    def test_the_class_method(self):
        self.assertIsInstance(vars(Controller)["replay"], classmethod)
        self.assertEqual(list(inspect.signature(Controller.replay).parameters), ["plan", "operations"])

    def test_arguments_of_methods_by_their_names(self):
        meter = Meter(plan=BASE)
        self.assertEqual(meter.see(tick=0, count=1), 18)
        self.assertEqual(meter.see_from(first=0), 18)
        self.assertEqual(meter.possible(tick=0), [1])
        told = Controller.replay(plan=BASE, operations=[])
        told.step(count=1)
        told.rain(count=1)
        told.request(name="a", water=1)
        told.shut(name="a")
        told.save(name="x")
        told.restore(name="x")
        told.batch(operations=[])
        self.assertEqual(told.operations, ["step", "rain", "request", "shut"])

    def test_properties_cannot_be_assigned(self):
        for kind, (_, _, properties) in CLASSES.items():
            for name in properties:
                with self.subTest(name):
                    self.assertRaises(AttributeError, setattr, kind(BASE), name, 0)


if __name__ == "__main__":
    unittest.main()
