"""Point 14: batches and replays."""

import random
import unittest

from tests.played import Played, draw_operation, told, view
from tests.support import BASE, Drawn, outcome, spoil
from watervalves.controller import Controller
from watervalves.errors import (
    CheckFault,
    GardenError,
    InvalidCount,
    InvalidOperation,
    QueueFull,
    SyntaxFault,
    UnknownValve,
)

GOOD = [("step", 1), ("rain", 2), ("request", "a", 3), ("shut", "b"), ("undo",), ("redo",)]
MALFORMED = (
    *((), ("step",), ("step", 1, 1), ("rain",), ("rain", 1, 2), ("request", "a"), ("request", "a", 1, 1), ("request",)),
    *(("shut",), ("shut", "a", 1), ("undo", 1), ("undo", None), ("redo", 1), ("redo", ())),
    *(("save", "x"), ("restore", "x"), ("batch", []), ("steps", 1), ("Step", 1), ("", 1), ("passed",), ("replay", [])),
    *((1,), (None,), (True, 1), (["step"], 1), (("step", 1),), (("step",), 1), ([], 1), (0, 1)),
    *(["step", 1], ["undo"], [], "undo", "step", "", None, True, False, 0, 7),
)
# Operations that fail on a new controller, with their errors.
FAILING = (
    (("step", -1), InvalidCount),
    (("step", 501), InvalidCount),
    (("step", "1"), InvalidCount),
    (("step", True), InvalidCount),
    (("step", None), InvalidCount),
    (("rain", -1), InvalidCount),
    (("rain", [1]), InvalidCount),
    (("request", "z", 0), UnknownValve),
    (("request", None, None), UnknownValve),
    (("request", ["a"], 1), UnknownValve),
    (("request", "a", 0), InvalidCount),
    (("request", "a", (1,)), InvalidCount),
    (("shut", "z"), UnknownValve),
    (("shut", ()), UnknownValve),
    (("shut", 0), UnknownValve),
)
FULL = [("request", "a", 1), ("request", "a", 2)]


class Batch(unittest.TestCase):
    def refused_at(self, controller, operations):
        """Return the place of the InvalidOperation that a batch raises."""
        before = view(controller)
        with self.assertRaises(InvalidOperation) as caught:
            controller.batch(operations)
        self.assertEqual(view(controller), before)
        return caught.exception.place

    def test_the_results(self):
        controller, other = Controller(BASE), Controller(BASE)
        results = controller.batch(GOOD)
        self.assertEqual(results, [getattr(other, word)(*arguments) for word, *arguments in GOOD])
        self.assertEqual(results, [[["a"]], 0, 1, 0, True, True])
        self.assertEqual(view(controller), view(other))
        self.assertEqual(controller.operations, ["step", "rain", "request", "shut"])

    def test_an_empty_batch(self):
        controller = told(BASE, ("step", 1), ("step", 1), ("undo",))
        before = view(controller)
        self.assertEqual(controller.batch([]), [])
        self.assertEqual(view(controller), before)
        self.assertIs(controller.redo(), True)

    def test_undo_and_redo_within_it(self):
        controller = told(BASE, ("step", 2))
        self.assertEqual(controller.batch([("redo",), ("undo",), ("undo",), ("redo",), ("redo",)]), [False, True, False, True, False])
        self.assertEqual(controller.operations, ["step"])

    def test_each_operation_can_be_undone_alone(self):
        controller = Controller(BASE)
        controller.batch([("step", 1), ("rain", 1), ("step", 2)])
        found = []
        while controller.undo():
            found.append((controller.passed, controller.operations))
        self.assertEqual(found, [(2, ["step", "rain"]), (1, ["step"]), (0, [])])
        self.assertEqual([controller.redo() for _ in range(4)], [True, True, True, False])
        self.assertEqual(controller.passed, 4)

    def test_an_executed_operation_ends_redo(self):
        controller = told(BASE, ("step", 1), ("undo",))
        self.assertEqual(controller.batch([("shut", "a"), ("redo",)]), [0, False])
        self.assertEqual(controller.operations, ["shut"])

    def test_a_failing_operation(self):
        for operation, error in FAILING:
            with self.subTest(operation):
                controller = told(BASE, ("step", 1), ("step", 1), ("step", 1), ("undo",))
                before = view(controller)
                for batch in ([operation], [*GOOD, operation], [("undo",), ("undo",), operation, ("step", 1)]):
                    self.assertRaises(error, controller.batch, batch)
                    self.assertEqual(view(controller), before)
                self.assertEqual([controller.redo(), controller.redo()], [True, False])
                self.assertEqual([controller.undo() for _ in range(4)], [True, True, True, False])

    def test_a_full_queue(self):
        controller = Controller(BASE)
        self.assertRaises(QueueFull, controller.batch, [*FULL, ("request", "a", 3)])
        self.assertEqual(view(controller), view(Controller(BASE)))
        self.assertEqual(controller.batch([*FULL, ("undo",), ("request", "a", 3)]), [1, 2, True, 2])

    def test_the_first_error(self):
        controller = Controller(BASE)
        for first, error in FAILING:
            for second, _ in FAILING:
                self.assertRaises(error, controller.batch, [("step", 1), first, second])

    def test_malformed_entries(self):
        controller = told(BASE, ("step", 1), ("undo",))
        for entry in MALFORMED:
            for place in range(len(GOOD) + 1):
                with self.subTest(entry=entry, place=place):
                    self.assertEqual(self.refused_at(controller, [*GOOD[:place], entry, *GOOD[place:]]), place)
        self.assertIs(controller.redo(), True)

    def test_the_first_malformed_entry(self):
        controller = Controller(BASE)
        for entry in MALFORMED:
            self.assertEqual(self.refused_at(controller, [("undo",), entry, None, ("step",)]), 1)

    def test_malformed_entries_go_before_those_that_fail(self):
        controller = Controller(BASE)
        for operation, _ in FAILING:
            self.assertEqual(self.refused_at(controller, [operation, ("step", 1), ("step",)]), 2)

    def test_what_is_no_list(self):
        controller = Controller(BASE)
        for wrong in (None, True, False, 0, 1, "", "undo", (), tuple(GOOD), (("step",),), ("undo",)):
            with self.subTest(wrong):
                self.assertEqual(self.refused_at(controller, wrong), 0)

    def test_snapshots_stay(self):
        controller = told(BASE, ("save", "x"), ("step", 1))
        self.assertRaises(InvalidCount, controller.batch, [("step", 1), ("step", -1)])
        controller.restore("x")
        self.assertEqual(controller.passed, 0)

    def test_the_list_is_not_changed(self):
        operations = list(GOOD)
        controller = Controller(BASE)
        results = controller.batch(operations)
        self.assertEqual(operations, GOOD)
        before = view(controller)
        spoil(results)
        operations.clear()
        self.assertEqual(view(controller), before)


class Replay(unittest.TestCase):
    def refused_at(self, operations):
        with self.assertRaises(InvalidOperation) as caught:
            Controller.replay(BASE, operations)
        return caught.exception.place

    def test_the_controller(self):
        other = Controller(BASE)
        other.batch(GOOD)
        controller = Controller.replay(BASE, GOOD)
        self.assertIs(type(controller), Controller)
        self.assertEqual(view(controller), view(other))
        self.assertEqual([controller.undo() for _ in range(5)], [True] * 4 + [False])
        self.assertEqual([controller.redo() for _ in range(5)], [True] * 4 + [False])
        self.assertEqual(view(controller), view(other))

    def test_no_operations(self):
        self.assertEqual(view(Controller.replay(BASE, [])), view(Controller(BASE)))

    def test_undo_and_redo(self):
        controller = Controller.replay(BASE, [("undo",), ("step", 1), ("step", 2), ("undo",)])
        self.assertEqual([controller.operations, controller.redo(), controller.passed], [["step"], True, 3])

    def test_the_controller_can_go_on(self):
        controller = Controller.replay(BASE, [("step", 3)])
        controller.save("x")
        self.assertEqual(controller.batch([("step", 1), ("request", "a", 1)]), [[["b"]], 1])
        controller.restore("x")
        self.assertEqual(controller.passed, 3)

    def test_of_a_controller(self):
        controller = told(BASE, ("step", 3), ("save", "x"))
        other = controller.replay(BASE, [("rain", 1)])
        self.assertEqual([controller.passed, other.passed], [3, 1])
        self.assertRaises(GardenError, other.restore, "x")

    def test_malformed_entries(self):
        for entry in MALFORMED:
            for place in range(len(GOOD) + 1):
                with self.subTest(entry=entry, place=place):
                    self.assertEqual(self.refused_at([*GOOD[:place], entry, *GOOD[place:]]), place)

    def test_failing_entries(self):
        for operation, _ in FAILING:
            for place in range(len(GOOD) + 1):
                with self.subTest(operation=operation, place=place):
                    self.assertEqual(self.refused_at([*GOOD[:place], operation, *GOOD[place:]]), place)
        self.assertEqual(self.refused_at([*FULL, ("request", "b", 1), ("request", "a", 1)]), 3)

    def test_the_first_entry_that_is_malformed_or_fails(self):
        self.assertEqual(self.refused_at([("step", 1), ("step", -1), ("step",)]), 1)
        self.assertEqual(self.refused_at([("step", 1), ("step",), ("step", -1)]), 1)

    def test_what_is_no_list(self):
        for wrong in (None, True, False, 0, "", "undo", (), tuple(GOOD), (("step",),)):
            with self.subTest(wrong):
                self.assertEqual(self.refused_at(wrong), 0)

    def test_errors_of_plans_come_first(self):
        for operations in (None, [], [None], GOOD):
            self.assertRaises(SyntaxFault, Controller.replay, "", operations)
            self.assertRaises(SyntaxFault, Controller.replay, None, operations)
            self.assertRaises(SyntaxFault, Controller.replay, "round 0; open 1; valves a", operations)
            self.assertRaises(CheckFault, Controller.replay, "round 0; open 1; valves a;", operations)

    def test_the_list_is_not_changed(self):
        operations = list(GOOD)
        Controller.replay(BASE, operations)
        self.assertEqual(operations, GOOD)


class DrawnReplays(unittest.TestCase):
    def test_drawn_replays(self):
        source = random.Random(93)
        places = []
        for _ in range(300):
            plan = Drawn(source)
            names = plan.names[:2] if source.random() < 0.5 else plan.names
            operations = [draw_operation(source, names, False) for _ in range(source.randint(0, 9))]
            played, expected = Played(plan), None
            for place, operation in enumerate(operations):
                if expected is None and isinstance(played.do(*operation), tuple):
                    expected = place
            with self.subTest(plan=plan.text, operations=operations):
                places.append(expected)
                if expected is None:
                    controller = Controller.replay(plan.text, operations)
                    self.assertEqual({name: getattr(controller, name) for name in played.view()}, played.view())
                else:
                    self.assertEqual(
                        outcome(Controller.replay, plan.text, operations), ("InvalidOperation", {"place": expected})
                    )
        self.assertGreater(places.count(None), 50)
        self.assertGreater(len(places) - places.count(None), 50)


if __name__ == "__main__":
    unittest.main()
