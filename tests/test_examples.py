"""The examples of the interface, as they stand there."""

import unittest

from watervalves.comparison import first_difference, first_error
from watervalves.controller import Controller
from watervalves.counting import (
    count_lost,
    count_openings,
    late_valves,
    longest_delay,
    nth_opening,
    opening_ticks,
    water,
)
from watervalves.encoding import decode, encode
from watervalves.errors import CheckFault, Contradiction, InvalidCode, InvalidOperation, SyntaxFault
from watervalves.formatter import format_plan, valves
from watervalves.machine import find_cycle, open_valves, trace, waiting
from watervalves.planning import idle_pauses, least_open, plan_shifts
from watervalves.watching import Meter

PLAN = "round 6; open 1; valves a b; start a 0 for 2; start b 1 for 2;"


class FormatterExamples(unittest.TestCase):
    def test_format_plan(self):
        self.assertEqual(
            format_plan("round 9; open 2; valves a b; pause 3 4; pause 5 6; rank b; start a 0 for 2;"),
            "round 9;\nopen 2;\nvalves a b;\nrank b a;\nstart a 0 for 2;\npause 3 6;",
        )

    def test_format_plan_with_a_syntax_fault(self):
        with self.assertRaises(SyntaxFault) as caught:
            format_plan("round 9; open; valves a;")
        self.assertEqual((caught.exception.line, caught.exception.column), (0, 13))

    def test_format_plan_with_a_check_fault(self):
        with self.assertRaises(CheckFault) as caught:
            format_plan("round 9; open 1; valves a; start b 0 for 2;")
        fault = caught.exception
        self.assertEqual((fault.reason, fault.line, fault.column), ("unknown", 0, 33))

    def test_valves(self):
        self.assertEqual(valves(PLAN), ["a", "b"])


class MachineExamples(unittest.TestCase):
    def test_open_valves(self):
        self.assertEqual([open_valves(PLAN, tick) for tick in (1, 2, 4)], [["a"], ["b"], []])

    def test_waiting(self):
        self.assertEqual(waiting(PLAN, 1), {"a": [], "b": [2]})

    def test_trace(self):
        self.assertEqual(
            list(trace(PLAN, 0, 1)),
            [(0, "ask", "a"), (0, "open", "a"), (1, "ask", "b"), (1, "close", "a")],
        )

    def test_find_cycle(self):
        self.assertEqual(find_cycle(PLAN), (0, 6))


class CountingExamples(unittest.TestCase):
    def test_count_openings(self):
        self.assertEqual(count_openings(PLAN, "b", 12), 2)

    def test_count_lost(self):
        self.assertEqual(count_lost(PLAN, "a", 12), 0)

    def test_water(self):
        self.assertEqual(water(PLAN, "b", 12), 4)

    def test_opening_ticks(self):
        self.assertEqual(opening_ticks(PLAN, "b"), ([], [2]))

    def test_nth_opening(self):
        self.assertEqual(nth_opening(PLAN, "b", 3), 14)

    def test_longest_delay(self):
        self.assertEqual(longest_delay(PLAN), (1, "b", 1))

    def test_late_valves(self):
        plan = "round 3; open 1; valves a b; start a 0 for 4; start b 1 for 1;"
        self.assertEqual(late_valves(plan), ["a", "b"])


class PlanningExamples(unittest.TestCase):
    def test_least_open(self):
        self.assertEqual(least_open(PLAN), 2)

    def test_plan_shifts(self):
        self.assertEqual(
            plan_shifts(PLAN, 2),
            (1, [0, 1], "round 6;\nopen 1;\nvalves a b;\nstart a 0 for 2;\nstart b 2 for 2;"),
        )

    def test_idle_pauses(self):
        plan = "round 6; open 1; valves a; start a 0 for 2; pause 1 1; pause 4 5;"
        self.assertEqual(idle_pauses(plan), [4, 5])


class ComparisonExamples(unittest.TestCase):
    def test_first_difference(self):
        other = "round 6; open 2; valves b a; start a 0 for 2; start b 1 for 2;"
        self.assertEqual(first_difference(PLAN, other), (1, ["a"], ["a", "b"]))

    def test_first_error(self):
        self.assertEqual(first_error(PLAN, [["a"], ["a"], ["a"]]), 2)


class MeterExamples(unittest.TestCase):
    def test_see(self):
        self.assertEqual(Meter(PLAN).see(0, 1), 18)

    def test_see_with_a_contradiction(self):
        self.assertRaises(Contradiction, Meter(PLAN).see, 0, 8)

    def test_see_from(self):
        self.assertEqual(Meter(PLAN).see_from(0, 1, 1, 1), 1)

    def test_candidates(self):
        meter = Meter(PLAN)
        meter.see_from(0, 1, 1, 1)
        self.assertEqual(meter.candidates, [(1, 0)])

    def test_history(self):
        meter = Meter(PLAN)
        meter.see(0, 1)
        self.assertEqual(meter.history, [(0, 1)])

    def test_possible(self):
        self.assertEqual(Meter(PLAN).possible(0), [0, 1])


class EncodingExamples(unittest.TestCase):
    CODE = [87, 2, 1, 1, 1, 0, 0, 1, 0, 0, 1, 0, 94]

    def test_encode(self):
        self.assertEqual(encode("round 2; open 1; valves a; start a 0 for 1;"), self.CODE)

    def test_decode(self):
        self.assertEqual(decode(self.CODE), "round 2;\nopen 1;\nvalves a;\nstart a 0 for 1;")

    def test_decode_with_an_invalid_code(self):
        with self.assertRaises(InvalidCode) as caught:
            decode([87, 61])
        self.assertEqual(caught.exception.place, 1)


class ControllerExamples(unittest.TestCase):
    def setUp(self):
        self.controller = Controller(PLAN)

    def test_step(self):
        self.assertEqual(self.controller.step(3), [["a"], ["a"], ["b"]])

    def test_rain(self):
        self.controller.rain(2)
        self.assertEqual(self.controller.queued, {"a": [2], "b": [2]})

    def test_request(self):
        self.assertEqual(self.controller.request("b", 5), 1)

    def test_shut(self):
        self.controller.step(1)
        found = [self.controller.running, self.controller.shut("a"), self.controller.running]
        self.assertEqual(found, [{"a": 1}, 1, {}])

    def test_undo(self):
        self.controller.step(1)
        found = [self.controller.undo(), self.controller.passed, self.controller.undo()]
        self.assertEqual(found, [True, 0, False])

    def test_redo(self):
        self.controller.step(1)
        self.controller.undo()
        self.assertEqual([self.controller.redo(), self.controller.passed], [True, 1])

    def test_passed(self):
        self.controller.step(9)
        self.assertEqual(self.controller.passed, 9)

    def test_used(self):
        self.controller.step(3)
        self.assertEqual(self.controller.used, {"a": 2, "b": 1})

    def test_running(self):
        self.controller.step(2)
        self.assertEqual(self.controller.running, {})

    def test_queued(self):
        self.controller.step(2)
        self.assertEqual(self.controller.queued, {"a": [], "b": [2]})

    def test_operations(self):
        self.controller.step(2)
        self.assertEqual(self.controller.operations, ["step"])

    def test_save_and_restore(self):
        self.controller.save("x")
        self.controller.step(1)
        self.controller.restore("x")
        self.assertEqual(self.controller.passed, 0)

    def test_batch(self):
        self.assertEqual(self.controller.batch([("step", 1), ("undo",)]), [[["a"]], True])

    def test_batch_with_an_invalid_operation(self):
        with self.assertRaises(InvalidOperation) as caught:
            self.controller.batch([("step",)])
        self.assertEqual(caught.exception.place, 0)

    def test_replay(self):
        controller = Controller.replay(PLAN, [("step", 3)])
        self.assertEqual(controller.running, {"b": 1})


if __name__ == "__main__":
    unittest.main()
