"""The examples of the interface, as they stand there."""

import unittest

from watervalves.errors import CheckFault, SyntaxFault
from watervalves.formatter import format_plan, valves
from watervalves.machine import find_cycle, open_valves, trace, waiting


class FormatterExamples(unittest.TestCase):
    def test_format_plan(self):
        self.assertEqual(
            format_plan("round 9; open 2; valves a b; pause 3 4; pause 5 6; rank b; start a 0 for 2;"),
            "round 9;\nopen 2;\nvalves a b;\nrank b a;\nstart a 0 for 2;\npause 3 6;",
        )

    def test_format_plan_with_a_syntax_fault(self):
        with self.assertRaises(SyntaxFault) as caught:
            format_plan("round 9; open; valves a;")
        self.assertEqual((caught.exception.line, caught.exception.column), (0, 13))

    def test_format_plan_with_a_check_fault(self):
        with self.assertRaises(CheckFault) as caught:
            format_plan("round 9; open 1; valves a; start b 0 for 2;")
        fault = caught.exception
        self.assertEqual((fault.reason, fault.line, fault.column), ("unknown", 0, 33))

    def test_valves(self):
        plan = "round 6; open 1; valves a b; start a 0 for 2; start b 1 for 2;"
        self.assertEqual(valves(plan), ["a", "b"])


class MachineExamples(unittest.TestCase):
    def setUp(self):
        self.plan = "round 6; open 1; valves a b; start a 0 for 2; start b 1 for 2;"

    def test_open_valves(self):
        self.assertEqual([open_valves(self.plan, tick) for tick in (1, 2, 4)], [["a"], ["b"], []])

    def test_waiting(self):
        self.assertEqual(waiting(self.plan, 1), {"a": [], "b": [2]})

    def test_trace(self):
        self.assertEqual(
            list(trace(self.plan, 0, 1)),
            [(0, "ask", "a"), (0, "open", "a"), (1, "ask", "b"), (1, "close", "a")],
        )

    def test_find_cycle(self):
        self.assertEqual(find_cycle(self.plan), (0, 6))


if __name__ == "__main__":
    unittest.main()
