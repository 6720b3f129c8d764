"""Point 1, as far as it speaks of every function."""

import unittest

from tests.support import BASE, CALLS
from watervalves.errors import CheckFault, GardenError, InvalidTick, SyntaxFault, TooLong
from watervalves.machine import open_valves, trace, waiting

LONG = "round 1; open 3; valves a b c; start a 0 for 29; start b 0 for 28; start c 0 for 27;"
WRONG = ("", "round 0; open 1; valves a;", "round 9; open 1; valves a a;")


class Repeating(unittest.TestCase):
    def test_a_call_gives_the_same_again(self):
        for name, call in CALLS.items():
            with self.subTest(name):
                first = call(BASE)
                self.assertEqual(call(BASE), first)

    def test_a_call_that_raises_changes_nothing(self):
        for name, call in CALLS.items():
            before = call(BASE)
            for plan in WRONG:
                with self.subTest(function=name, plan=plan):
                    self.assertRaises(GardenError, call, plan)
                    self.assertRaises(GardenError, call, plan)
                    self.assertEqual(call(BASE), before)

    def test_other_plans_in_between_change_nothing(self):
        other = "round 2; open 9; valves a b; start a 0 for 30; start b 1 for 30; pause 1 1;"
        for name, call in CALLS.items():
            with self.subTest(name):
                before = call(BASE)
                call(other)
                self.assertEqual(call(BASE), before)


class Order(unittest.TestCase):
    def test_arguments_are_checked_from_left_to_right(self):
        for call in (open_valves, waiting, lambda plan, tick: list(trace(plan, tick, tick))):
            self.assertRaises(SyntaxFault, call, "", -1)
            self.assertRaises(SyntaxFault, call, None, None)
            self.assertRaises(CheckFault, call, "round 0; open 1; valves a;", -1)

    def test_a_tick_goes_before_a_plan_that_is_too_long(self):
        for call in (open_valves, waiting, lambda plan, tick: list(trace(plan, tick, tick))):
            self.assertRaises(InvalidTick, call, LONG, True)
            self.assertRaises(InvalidTick, call, LONG, 10 ** 18 + 1)
            self.assertRaises(TooLong, call, LONG, 10 ** 18)

    def test_a_fault_of_syntax_goes_before_one_of_the_checks(self):
        for name, call in CALLS.items():
            with self.subTest(name):
                self.assertRaises(SyntaxFault, call, "round 99; open 1; valves a; ;")


class Names(unittest.TestCase):
    def test_arguments_by_their_names(self):
        self.assertEqual(open_valves(plan=BASE, tick=0), ["a"])
        self.assertEqual(waiting(plan=BASE, tick=0), {"a": [], "b": []})
        self.assertEqual(list(trace(plan=BASE, first=0, last=0)), [(0, "ask", "a"), (0, "open", "a")])
        for name in ("format_plan", "valves", "find_cycle"):
            CALLS[name](plan=BASE)

    def test_functions_are_defined_where_the_interface_lists_them(self):
        for name in ("format_plan", "valves"):
            self.assertEqual(CALLS[name].__module__, "watervalves.formatter")
        for function in (open_valves, waiting, trace, CALLS["find_cycle"]):
            self.assertEqual(function.__module__, "watervalves.machine")


if __name__ == "__main__":
    unittest.main()
