"""Point 13: a controller, its operations, undo, redo and snapshots."""

import random
import unittest

from tests.played import Played, draw_operation, told, view
from tests.support import BASE, LONG, WRONG_KINDS, WRONG_NAMES, Drawn, draw_repeating, outcome, spoil
from watervalves.controller import Controller
from watervalves.errors import (
    CheckFault,
    InvalidCount,
    InvalidName,
    QueueFull,
    SyntaxFault,
    UnknownName,
    UnknownValve,
)
from watervalves.machine import open_valves, waiting

ORDERED = "round 9; open 3; valves c a b; rank b; start a 0 for 3; start b 0 for 4; start c 0 for 5;"
LOSING = "round 2; open 1; valves a b; start a 0 for 9; start b 0 for 1; start b 0 for 1; start b 1 for 2;"


class Beginning(unittest.TestCase):
    def test_a_new_controller(self):
        controller = Controller(ORDERED)
        self.assertEqual(
            view(controller),
            {
                "passed": 0,
                "used": [("c", 0), ("a", 0), ("b", 0)],
                "running": [],
                "queued": [("c", []), ("a", []), ("b", [])],
                "operations": [],
            },
        )

    def test_errors_of_plans(self):
        for wrong in ("", None, True, 0, [], (), [BASE]):
            with self.subTest(wrong):
                self.assertRaises(SyntaxFault, Controller, wrong)
        self.assertRaises(SyntaxFault, Controller, "round 0; open 1; valves a")
        self.assertRaises(CheckFault, Controller, "round 0; open 1; valves a;")

    def test_a_plan_that_does_not_repeat_early(self):
        self.assertEqual(Controller(LONG).step(1), [["a", "b", "c"]])


class Step(unittest.TestCase):
    def test_ticks_pass(self):
        controller = Controller(BASE)
        self.assertEqual(controller.step(2), [["a"], ["a"]])
        self.assertEqual(controller.step(3), [["b"], ["b"], []])
        self.assertEqual(controller.step(2), [[], ["a"]])
        self.assertEqual(controller.passed, 7)
        self.assertEqual(controller.used, {"a": 3, "b": 2})

    def test_the_order_behind_valves(self):
        controller = Controller(ORDERED)
        self.assertEqual(controller.step(5), [["c", "a", "b"]] * 3 + [["c", "b"], ["c"]])

    def test_no_tick(self):
        controller = Controller(BASE)
        self.assertEqual(controller.step(0), [])
        self.assertEqual([controller.passed, controller.operations], [0, ["step"]])

    def test_500_ticks(self):
        controller = Controller(BASE)
        self.assertEqual(controller.step(500), [open_valves(BASE, tick) for tick in range(500)])
        self.assertEqual(controller.passed, 500)

    def test_wrong_numbers(self):
        controller = Controller(BASE)
        for count in (-1, 501, 10 ** 18, *WRONG_KINDS):
            with self.subTest(count):
                self.assertRaises(InvalidCount, controller.step, count)
        self.assertEqual(view(controller), view(Controller(BASE)))

    def test_it_goes_with_the_plan(self):
        source = random.Random(91)
        for _ in range(40):
            plan, _, _ = draw_repeating(source, 300)
            controller = Controller(plan.text)
            used = {name: 0 for name in plan.names}
            for tick in range(60):
                with self.subTest(plan=plan.text, tick=tick):
                    self.assertEqual(controller.step(1), [open_valves(plan.text, tick)])
                    self.assertEqual(list(controller.queued.items()), list(waiting(plan.text, tick).items()))
                    for name in open_valves(plan.text, tick):
                        used[name] += 1
                    self.assertEqual(controller.used, used)


class Rain(unittest.TestCase):
    def test_requests_come_and_nothing_waters(self):
        controller = Controller(BASE)
        self.assertEqual(controller.rain(2), 0)
        self.assertEqual(
            [controller.passed, controller.used, controller.running, controller.queued],
            [2, {"a": 0, "b": 0}, {}, {"a": [2], "b": [2]}],
        )
        self.assertEqual(controller.step(5), [["a"], ["a"], ["b"], ["b"], ["a"]])

    def test_open_valves_stay_open(self):
        controller = told(BASE, ("step", 1), ("rain", 2))
        self.assertEqual([controller.running, controller.queued], [{"a": 1}, {"a": [], "b": [2]}])
        self.assertEqual(controller.used, {"a": 1, "b": 0})
        self.assertEqual(controller.step(2), [["a"], ["b"]])

    def test_requests_that_are_lost(self):
        controller = Controller(LOSING)
        self.assertEqual(controller.rain(1), 0)
        self.assertEqual(controller.queued, {"a": [9], "b": [1, 1]})
        self.assertEqual(controller.rain(1), 1)
        self.assertEqual(controller.rain(4), 2 + 1 + 3 + 1)
        self.assertEqual(controller.queued, {"a": [9, 9], "b": [1, 1]})
        self.assertEqual(controller.passed, 6)

    def test_it_is_the_same_as_a_pause(self):
        plan = "round 9; open 1; valves a b; start a 0 for 3; start b 2 for 1; start b 6 for 2; start a 7 for 1;"
        rainy, paused = Controller(plan), Controller(plan + "pause 1 3;")
        for _ in range(4):
            rainy.step(1)
            rainy.rain(3)
            paused.step(4)
            self.assertEqual(rainy.step(5), paused.step(5))
            self.assertEqual([rainy.queued, rainy.running], [paused.queued, paused.running])
            self.assertEqual(rainy.used, paused.used)

    def test_in_a_pause_it_makes_no_difference(self):
        plan = BASE + "pause 1 2;"
        one, two = told(plan, ("step", 1), ("step", 2)), told(plan, ("step", 1), ("rain", 2))
        self.assertEqual([one.running, one.queued, one.used], [two.running, two.queued, two.used])

    def test_no_tick_and_500_ticks(self):
        controller = Controller(BASE)
        self.assertEqual(controller.rain(0), 0)
        self.assertEqual([controller.passed, controller.operations], [0, ["rain"]])
        # Requests come for a in ticks 0 to 498 and for b in ticks 1 to 499: 84 for each.
        self.assertEqual(controller.rain(500), 82 + 82)
        self.assertEqual(controller.passed, 500)

    def test_wrong_numbers(self):
        controller = Controller(BASE)
        for count in (-1, 501, 10 ** 18, *WRONG_KINDS):
            with self.subTest(count):
                self.assertRaises(InvalidCount, controller.rain, count)
        self.assertEqual(view(controller), view(Controller(BASE)))


class Request(unittest.TestCase):
    def test_before_the_next_tick(self):
        controller = Controller("round 6; open 1; valves a b;")
        self.assertEqual(controller.request("b", 2), 1)
        self.assertEqual([controller.passed, controller.queued], [0, {"a": [], "b": [2]}])
        self.assertEqual(controller.step(3), [["b"], ["b"], []])

    def test_it_waits_behind_others_and_before_those_of_the_next_tick(self):
        controller = Controller(BASE)
        controller.rain(1)
        self.assertEqual(controller.request("a", 5), 2)
        self.assertEqual(controller.request("b", 7), 1)
        self.assertEqual(controller.queued, {"a": [2, 5], "b": [7]})
        controller.rain(1)
        self.assertEqual(controller.queued, {"a": [2, 5], "b": [7, 2]})

    def test_the_request_of_the_plan_can_be_lost_by_it(self):
        controller = told(BASE, ("request", "a", 1), ("request", "a", 1))
        self.assertEqual(controller.rain(1), 1)

    def test_the_number_of_requests_that_wait(self):
        controller = Controller("round 6; open 1; valves a b;")
        self.assertEqual([controller.request("a", 30), controller.request("b", 1), controller.request("a", 1)], [1, 1, 2])
        controller.step(1)
        self.assertEqual([controller.running, controller.queued], [{"a": 29}, {"a": [1], "b": [1]}])
        self.assertEqual([controller.request("a", 2), controller.request("b", 2)], [2, 2])

    def test_two_waiting_requests(self):
        controller = told(BASE, ("request", "b", 1), ("request", "b", 30))
        before = view(controller)
        self.assertRaises(QueueFull, controller.request, "b", 1)
        self.assertEqual(view(controller), before)
        self.assertEqual(controller.request("a", 1), 1)

    def test_the_request_for_which_a_valve_is_open_does_not_count(self):
        controller = told(BASE, ("step", 1))
        self.assertEqual([controller.request("a", 1), controller.request("a", 1)], [1, 2])
        self.assertRaises(QueueFull, controller.request, "a", 1)

    def test_wrong_valves(self):
        controller = Controller(BASE)
        for name in WRONG_NAMES:
            with self.subTest(name):
                self.assertRaises(UnknownValve, controller.request, name, 1)
                self.assertRaises(UnknownValve, controller.request, name, 0)
        self.assertEqual(view(controller), view(Controller(BASE)))

    def test_wrong_numbers(self):
        controller = Controller(BASE)
        for water in (0, -1, 31, 10 ** 18, *WRONG_KINDS):
            with self.subTest(water):
                self.assertRaises(InvalidCount, controller.request, "a", water)
        self.assertEqual(view(controller), view(Controller(BASE)))
        self.assertEqual([controller.request("a", 1), controller.request("a", 30)], [1, 2])

    def test_the_order_of_the_errors(self):
        controller = told(BASE, ("request", "a", 1), ("request", "a", 1))
        self.assertRaises(UnknownValve, controller.request, "z", 0)
        self.assertRaises(InvalidCount, controller.request, "a", 0)
        self.assertRaises(InvalidCount, controller.request, "a", None)
        self.assertRaises(QueueFull, controller.request, "a", 1)


class Shut(unittest.TestCase):
    def test_an_open_valve(self):
        controller = told(ORDERED, ("step", 1))
        self.assertEqual(controller.running, {"c": 4, "a": 2, "b": 3})
        self.assertEqual([controller.shut("c"), controller.shut("b")], [4, 3])
        self.assertEqual(controller.running, {"a": 2})
        self.assertEqual(controller.step(2), [["a"], ["a"]])
        self.assertEqual(controller.used, {"c": 1, "a": 3, "b": 1})

    def test_a_closed_valve(self):
        controller = Controller(BASE)
        self.assertEqual([controller.shut("a"), controller.shut("a")], [0, 0])
        self.assertEqual(controller.operations, ["shut", "shut"])
        self.assertEqual(controller.step(2), [["a"], ["a"]])
        self.assertEqual(controller.shut("a"), 0)

    def test_the_place_is_free_then(self):
        controller = told(BASE, ("rain", 2), ("step", 1))
        self.assertEqual([controller.running, controller.queued], [{"a": 1}, {"a": [], "b": [2]}])
        controller.shut("a")
        self.assertEqual(controller.step(2), [["b"], ["b"]])

    def test_requests_go_on_waiting(self):
        controller = told(BASE, ("step", 1), ("request", "a", 4))
        self.assertEqual(controller.shut("a"), 1)
        self.assertEqual([controller.queued, controller.shut("a")], [{"a": [4], "b": []}, 0])
        controller.step(1)
        self.assertEqual(controller.running, {"a": 3})

    def test_a_valve_that_is_held_in_a_pause(self):
        controller = told(BASE + "pause 1 2;", ("step", 2))
        self.assertEqual(controller.shut("a"), 1)
        self.assertEqual(controller.step(2), [[], ["b"]])

    def test_wrong_valves(self):
        controller = Controller(BASE)
        for name in WRONG_NAMES:
            with self.subTest(name):
                self.assertRaises(UnknownValve, controller.shut, name)
        self.assertEqual(view(controller), view(Controller(BASE)))


class UndoRedo(unittest.TestCase):
    def test_nothing_to_undo_or_redo(self):
        controller = Controller(BASE)
        for found in (controller.undo(), controller.redo()):
            self.assertIs(found, False)
        self.assertEqual(view(controller), view(Controller(BASE)))
        controller.step(1)
        self.assertIs(controller.redo(), False)
        self.assertIs(controller.undo(), True)
        self.assertIs(controller.undo(), False)
        self.assertIs(controller.redo(), True)
        self.assertIs(controller.redo(), False)

    def test_each_operation(self):
        for operation in (("step", 3), ("rain", 3), ("request", "a", 9), ("shut", "a"), ("step", 0), ("rain", 0), ("shut", "b")):
            controller = told(BASE, ("step", 1))
            before = view(controller)
            getattr(controller, operation[0])(*operation[1:])
            after = view(controller)
            with self.subTest(operation):
                self.assertEqual(after["operations"], ["step", operation[0]])
                self.assertIs(controller.undo(), True)
                self.assertEqual(view(controller), before)
                self.assertIs(controller.redo(), True)
                self.assertEqual(view(controller), after)

    def test_several(self):
        controller = Controller(BASE)
        views = [view(controller)]
        for word, *arguments in (("step", 1), ("request", "b", 3), ("rain", 2), ("shut", "a"), ("step", 4)):
            getattr(controller, word)(*arguments)
            views.append(view(controller))
        for expected in reversed(views[:-1]):
            self.assertTrue(controller.undo())
            self.assertEqual(view(controller), expected)
        for expected in views[1:]:
            self.assertTrue(controller.redo())
            self.assertEqual(view(controller), expected)

    def test_no_redo_after_an_executed_operation(self):
        for operation in (("step", 1), ("rain", 0), ("request", "a", 1), ("shut", "b"), ("step", 0)):
            controller = told(BASE, ("step", 1), ("step", 1), ("undo",), ("undo",))
            getattr(controller, operation[0])(*operation[1:])
            with self.subTest(operation):
                self.assertIs(controller.redo(), False)
                self.assertEqual(controller.operations, [operation[0]])

    def test_redo_and_an_operation(self):
        controller = told(BASE, ("step", 1), ("rain", 1), ("undo",), ("undo",), ("redo",), ("shut", "a"))
        self.assertIs(controller.redo(), False)
        self.assertEqual(controller.operations, ["step", "shut"])

    def test_an_operation_that_fails_leaves_redo(self):
        controller = told(BASE, ("request", "a", 1), ("request", "a", 1), ("step", 1), ("undo",))
        before = view(controller)
        for operation in (("step", -1), ("rain", 501), ("request", "a", 1), ("request", "z", 1), ("request", "a", 0), ("shut", "z")):
            with self.subTest(operation):
                self.assertIs(type(outcome(getattr(controller, operation[0]), *operation[1:])), tuple)
                self.assertEqual(view(controller), before)
        self.assertIs(controller.redo(), True)
        self.assertEqual(controller.operations, ["request", "request", "step"])

    def test_properties_leave_redo(self):
        controller = told(BASE, ("step", 1), ("undo",))
        view(controller)
        controller.save("x")
        self.assertIs(controller.redo(), True)

    def test_the_same_after_undo(self):
        controller = told(BASE, ("step", 7), ("undo",))
        self.assertEqual(controller.step(7), Controller(BASE).step(7))

    def test_operations(self):
        controller = told(BASE, ("shut", "a"), ("request", "a", 1), ("rain", 1), ("step", 1), ("undo",))
        self.assertEqual(controller.operations, ["shut", "request", "rain"])


class Snapshots(unittest.TestCase):
    def test_the_state(self):
        controller = told(BASE, ("step", 2), ("request", "b", 9), ("shut", "a"))
        before = view(controller)
        self.assertIsNone(controller.save("x"))
        controller.step(5)
        controller.undo()
        controller.undo()
        self.assertIsNone(controller.restore("x"))
        self.assertEqual(view(controller), before)

    def test_what_undo_and_redo_would_do(self):
        controller = told(BASE, ("step", 1), ("rain", 2), ("step", 3), ("undo",), ("undo",))
        controller.save("x")
        for word, *arguments in (("step", 9), ("undo",), ("undo",), ("undo",), ("shut", "a")):
            getattr(controller, word)(*arguments)
        for _ in range(2):
            controller.restore("x")
            self.assertEqual(controller.operations, ["step"])
            self.assertEqual([controller.redo() for _ in range(3)], [True, True, False])
            self.assertEqual([controller.operations, controller.passed], [["step", "rain", "step"], 6])
            self.assertEqual([controller.undo() for _ in range(4)], [True, True, True, False])
            self.assertEqual(view(controller), view(Controller(BASE)))

    def test_it_is_not_changed_by_what_follows(self):
        controller = told(BASE, ("step", 1))
        controller.save("x")
        for _ in range(3):
            controller.restore("x")
            self.assertEqual(controller.step(2), [["a"], ["b"]])
            controller.request("a", 3)
            controller.undo()

    def test_the_same_name_again(self):
        controller = told(BASE, ("step", 1), ("save", "x"), ("step", 1), ("save", "x"), ("step", 1), ("restore", "x"))
        self.assertEqual(controller.passed, 2)
        controller = told(BASE, ("step", 1), ("save", "x"), ("undo",), ("save", "x"), ("step", 5), ("restore", "x"))
        self.assertEqual([controller.passed, controller.redo(), controller.passed], [0, True, 1])

    def test_several_names(self):
        controller = told(BASE, ("save", "a"), ("step", 1), ("save", "b"), ("step", 1), ("save", "ab"))
        for name, passed in (("b", 1), ("ab", 2), ("a", 0), ("ab", 2)):
            controller.restore(name)
            self.assertEqual(controller.passed, passed)

    def test_snapshots_are_no_part_of_the_state(self):
        controller = told(BASE, ("save", "x"), ("step", 1), ("save", "y"), ("restore", "x"))
        # Neither a snapshot that is restored nor undo takes away those that were saved later.
        controller.restore("y")
        self.assertEqual(controller.passed, 1)
        controller.undo()
        controller.restore("y")
        self.assertEqual([controller.passed, controller.operations], [1, ["step"]])

    def test_they_are_no_operations(self):
        controller = told(BASE, ("step", 1), ("save", "x"), ("restore", "x"))
        self.assertEqual(controller.operations, ["step"])
        self.assertEqual([controller.undo(), controller.undo()], [True, False])

    def test_names(self):
        controller = Controller(BASE)
        for name in ("a", "z", "abcdefgh", "zzzzzzzz", "open", "rank"):
            with self.subTest(name):
                self.assertIsNone(controller.save(name))
                self.assertIsNone(controller.restore(name))

    def test_wrong_names(self):
        controller = Controller(BASE)
        controller.save("x")
        wrong = ("", "abcdefghi", "A", "aB", "a b", " a", "a1", "1", "a-", "a\n", "\n", "\u00e4", "a_", *WRONG_KINDS, 0, ["x"], ("x",), [["x"]])
        for name in wrong:
            with self.subTest(name):
                self.assertRaises(InvalidName, controller.save, name)
                self.assertRaises(UnknownName, controller.restore, name)

    def test_unknown_names(self):
        controller = told(BASE, ("save", "x"), ("step", 1), ("undo",))
        for name in ("y", "xx", "abcdefgh"):
            self.assertRaises(UnknownName, controller.restore, name)
        self.assertEqual([controller.passed, controller.redo()], [0, True])
        self.assertRaises(UnknownName, Controller(BASE).restore, "x")


class Objects(unittest.TestCase):
    def test_lists_and_dicts_are_new(self):
        controller = told(LOSING, ("step", 1), ("rain", 1), ("shut", "b"))
        controller.save("x")
        before = view(controller)
        for name in ("used", "running", "queued", "operations"):
            with self.subTest(name):
                spoil(getattr(controller, name))
                self.assertEqual(view(controller), before)
        spoil(controller.step(3))
        controller.undo()
        controller.undo()
        controller.redo()
        self.assertEqual(view(controller), before)
        controller.restore("x")
        self.assertEqual(view(controller), before)

    def test_the_kinds_of_values(self):
        controller = told(BASE, ("step", 2))
        self.assertIs(type(controller.passed), int)
        for name in ("used", "running", "queued"):
            self.assertIs(type(getattr(controller, name)), dict)
        self.assertIs(type(controller.operations), list)
        self.assertIs(type(controller.step(1)), list)
        self.assertIs(type(controller.rain(1)), int)
        self.assertIs(type(controller.request("a", 1)), int)

    def test_the_order_of_the_dicts(self):
        controller = told(ORDERED, ("rain", 1), ("step", 1))
        self.assertEqual(list(controller.used), ["c", "a", "b"])
        self.assertEqual(list(controller.queued), ["c", "a", "b"])
        self.assertEqual(list(controller.running), ["c", "a", "b"])
        controller.shut("a")
        self.assertEqual(list(controller.running), ["c", "b"])

    def test_controllers_do_not_influence_each_other(self):
        one, two = Controller(BASE), Controller(BASE)
        one.save("x")
        one.step(3)
        one.request("a", 1)
        self.assertEqual(view(two), view(Controller(BASE)))
        self.assertRaises(UnknownName, two.restore, "x")
        two.rain(2)
        self.assertEqual([one.passed, one.operations], [3, ["step", "request"]])

    def test_a_controller_does_not_change_the_plan(self):
        controller = told(BASE, ("request", "a", 1), ("rain", 100), ("shut", "a"))
        self.assertEqual(controller.passed, 100)
        self.assertEqual(waiting(BASE, 1), {"a": [], "b": [2]})
        self.assertEqual(Controller(BASE).step(3), [["a"], ["a"], ["b"]])


class DrawnOperations(unittest.TestCase):
    """Controllers against one that keeps only its operations and plays them anew."""

    def test_drawn_operations(self):
        source = random.Random(92)
        seen = set()
        for _ in range(60):
            plan = Drawn(source)
            controller, played = Controller(plan.text), Played(plan)
            for _ in range(40):
                operation = draw_operation(source, plan.names)
                with self.subTest(plan=plan.text, operations=played.done, operation=operation):
                    found = outcome(getattr(controller, operation[0]), *operation[1:])
                    self.assertEqual(found, played.do(*operation))
                    expected = played.view()
                    self.assertEqual({name: getattr(controller, name) for name in expected}, expected)
                    for name in ("used", "running", "queued"):
                        self.assertEqual(list(getattr(controller, name)), list(expected[name]))
                    seen.add((operation[0], found[0] if isinstance(found, tuple) else "fine"))
        for error in ("InvalidCount", "UnknownValve", "QueueFull", "InvalidOperation", "fine"):
            self.assertIn(("batch", error), seen)
        for pair in (("save", "InvalidName"), ("restore", "UnknownName"), ("request", "QueueFull"), ("restore", "fine")):
            self.assertIn(pair, seen)


if __name__ == "__main__":
    unittest.main()
