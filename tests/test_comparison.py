"""Point 10: the first difference of two plans, and the first error of a log."""

import copy
import random
import unittest

from tests.support import BASE, LONG, WRONG_KINDS, Model, draw_repeating
from watervalves.comparison import first_difference, first_error
from watervalves.errors import CheckFault, DifferentValves, SyntaxFault, TooLong
from watervalves.machine import find_cycle, open_valves


class FirstDifference(unittest.TestCase):
    def test_a_difference(self):
        other = "round 6; open 2; valves b a; start a 0 for 2; start b 1 for 2;"
        self.assertEqual(first_difference(BASE, other), (1, ["a"], ["a", "b"]))
        self.assertEqual(first_difference(other, BASE), (1, ["a", "b"], ["a"]))

    def test_no_difference(self):
        self.assertIsNone(first_difference(BASE, BASE))
        self.assertIsNone(first_difference(BASE, BASE.replace(" ", "\n")))
        self.assertIsNone(first_difference(BASE, "round 6; open 1; valves b a; start b 2 for 2; start a 0 for 2;"))
        self.assertIsNone(first_difference("round 6; open 1; valves a;", "round 7; open 2; valves a; pause 0 1;"))

    def test_rounds_of_different_lengths(self):
        twice = "round 12; open 1; valves a b;" + "".join(
            f"start a {tick} for 2; start b {tick + 1} for 2;" for tick in (0, 6)
        )
        self.assertIsNone(first_difference(BASE, twice))
        self.assertIsNone(first_difference(twice, BASE))

    def test_a_difference_in_the_first_tick(self):
        plan = "round 6; open 1; valves a b; start {} 0 for 2;"
        self.assertEqual(first_difference(plan.format("b"), plan.format("a")), (0, ["b"], ["a"]))

    def test_nothing_waters_by_one_plan(self):
        self.assertEqual(first_difference("round 6; open 1; valves b a;", BASE), (0, [], ["a"]))

    def test_the_order_of_the_valves_does_not_matter(self):
        starts = "start a 0 for 1; start b 0 for 1; start c 0 for 1;"
        plan = "round 6; open 3; valves c a b;" + starts
        self.assertIsNone(first_difference(plan, "round 6; open 3; valves b c a;" + starts))
        other = "round 6; open 3; valves b c a; start b 0 for 1; start a 0 for 1;"
        self.assertEqual(first_difference(plan, other), (0, ["a", "b", "c"], ["a", "b"]))

    def test_a_difference_in_a_later_round(self):
        # Only from the second round on, a is still open when b comes.
        plan = "round 6; open {}; valves a b; start a 5 for 3; start b 0 for 1;"
        self.assertEqual(first_difference(plan.format(1), plan.format(2)), (6, ["a"], ["a", "b"]))

    def test_a_difference_behind_both_cycles(self):
        plan = "round {}; open 1; valves a; start a 58 for 1;"
        one, other = plan.format(59), plan.format(60)
        self.assertEqual([find_cycle(one), find_cycle(other)], [(0, 59), (0, 60)])
        self.assertEqual(first_difference(one, other), (117, ["a"], []))
        self.assertEqual(first_difference(other, one), (117, [], ["a"]))

    def test_a_difference_in_cycles_that_begin_late(self):
        plan = "round 6; open 1; valves a b; start a 0 for 7; start a 1 for {}; start b 1 for 6;"
        one, other = plan.format(2), plan.format(3)
        self.assertEqual([find_cycle(one), find_cycle(other)], [(83, 42), (80, 30)])
        self.assertEqual(first_difference(one, other), (119, ["b"], ["a"]))

    def test_a_difference_far_behind_the_beginning_of_one_cycle(self):
        plan = "round 5; open 1; valves a b; start b 4 for 1; start a 4 for {}; start b 3 for 7;"
        one, other = plan.format(4), plan.format(5)
        self.assertEqual([find_cycle(one), find_cycle(other)], [(75, 5), (10, 5)])
        self.assertEqual(first_difference(one, other), (38, ["b"], ["a"]))
        self.assertEqual(first_difference(other, one), (38, ["a"], ["b"]))

    def test_different_valves(self):
        for names in ("a", "a c", "a b c", "ab", "b"):
            plan = f"round 6; open 1; valves {names};"
            with self.subTest(names):
                self.assertRaises(DifferentValves, first_difference, BASE, plan)
                self.assertRaises(DifferentValves, first_difference, plan, BASE)

    def test_each_plan_may_be_wrong(self):
        names = "round 6; open 1; valves c b a;"
        for wrong, good, error in (("", BASE, SyntaxFault), (None, BASE, SyntaxFault), (LONG, names, TooLong)):
            self.assertRaises(error, first_difference, wrong, good)
            self.assertRaises(error, first_difference, good, wrong)
        for wrong in ("round 0; open 1; valves a b;", "round 6; open 1; valves a b b;"):
            self.assertRaises(CheckFault, first_difference, wrong, BASE)
            self.assertRaises(CheckFault, first_difference, BASE, wrong)

    def test_too_long_although_the_first_tick_differs(self):
        self.assertRaises(TooLong, first_difference, LONG, "round 6; open 1; valves c b a;")

    def test_the_first_of_two_faults(self):
        with self.assertRaises(SyntaxFault) as caught:
            first_difference("round 6", "round 6; open")
        self.assertEqual((caught.exception.line, caught.exception.column), (1, 0))
        with self.assertRaises(CheckFault) as caught:
            first_difference("round 0; open 1; valves a;", "round 1; open 0; valves a;")
        self.assertEqual(caught.exception.reason, "round")

    def test_the_kinds_of_values(self):
        found = first_difference(BASE, "round 6; open 1; valves a b;")
        self.assertEqual([type(part) for part in (found, *found)], [tuple, int, list, list])

    def test_drawn_plans(self):
        source = random.Random(59)
        ticks = []
        for _ in range(200):
            plan, begin, length = draw_repeating(source, 300, easy=source.random() < 0.3)
            change = self.draw_change(plan, source)
            expected = self.expected(plan, change)
            text = self.write(change)
            with self.subTest(plan=plan.text, other=text):
                self.assertEqual(first_difference(plan.text, text), expected)
                ticks.append(expected and expected[0])
        self.assertGreater(ticks.count(None), 3)
        self.assertGreater(len([tick for tick in ticks if tick and tick > 10]), 3)

    def draw_change(self, plan, source):
        """Return another plan with the same valves and nearly the same parts."""
        change = copy.copy(plan)
        change.names = source.sample(plan.names, len(plan.names))
        kind = source.randint(0, 3)
        if kind == 0:
            change.limit = source.randint(1, 5)
        elif kind == 1:
            change.rank = source.sample(plan.names, len(plan.names))
        elif kind == 2:
            change.paused = plan.paused[1:]
        elif plan.starts:
            name, tick, water = plan.starts[0]
            change.starts = [(name, tick, min(water + 1, 30)), *plan.starts[1:]]
        return change

    def write(self, plan):
        rows = [f"start {name} {tick} for {water};" for name, tick, water in plan.starts]
        rows += [f"pause {tick} {tick};" for tick in plan.paused]
        head = f"round {plan.period}; open {plan.limit}; valves {' '.join(plan.names)};"
        return head + f"rank {' '.join(plan.rank)};" + "".join(rows)

    def expected(self, plan, other):
        one = plan.model()
        two = Model(other.period, other.limit, other.names, other.rank, other.starts, other.paused)
        for tick in range(3000):
            wet, other_wet = sorted(one.step()[1]), sorted(two.step()[1])
            if wet != other_wet:
                return tick, wet, other_wet
        return None


class FirstError(unittest.TestCase):
    def log(self, plan, many):
        return [sorted(open_valves(plan, tick)) for tick in range(many)]

    def test_an_error(self):
        self.assertEqual(first_error(BASE, [["a"], ["a"], ["a"]]), 2)
        self.assertEqual(first_error(BASE, [[], ["a"], ["a"]]), 0)
        self.assertEqual(first_error(BASE, [["a"], ["a"], ["b"], ["b"], ["b"]]), 4)

    def test_no_error(self):
        self.assertIsNone(first_error(BASE, [["a"], ["a"], ["b"], ["b"], [], []]))
        self.assertIsNone(first_error(BASE, [["a"]]))

    def test_an_empty_log(self):
        self.assertIsNone(first_error(BASE, []))

    def test_a_log_that_is_longer_than_the_cycle(self):
        plan = "round 2; open 1; valves a b; start a 0 for 3; start b 1 for 1;"
        begin, length = find_cycle(plan)
        log = self.log(plan, begin + 3 * length)
        self.assertIsNone(first_error(plan, log))
        for index in (0, begin, begin + length, len(log) - 1):
            wrong = list(log)
            wrong[index] = ["a", "b"]
            self.assertEqual(first_error(plan, wrong), index)

    def test_the_names_are_ascending(self):
        plan = "round 6; open 2; valves b a; start a 0 for 1; start b 0 for 1;"
        self.assertIsNone(first_error(plan, [["a", "b"], []]))
        self.assertEqual(first_error(plan, [["b", "a"], []]), 0)
        self.assertEqual(first_error(plan, [["a", "b", "b"]]), 0)
        self.assertEqual(first_error(plan, [["a"]]), 0)

    def test_items_that_are_no_lists_of_names(self):
        for wrong in (("a",), "a", None, True, False, 0, 1, ["b"], [True], [["a"]], [("a",)], ["a", "a"], [], [None]):
            with self.subTest(wrong):
                self.assertEqual(first_error(BASE, [["a"], wrong]), 1)
        for wrong in ((), "", None, False, 0, [[]], [0], [None]):
            with self.subTest(wrong):
                self.assertEqual(first_error("round 6; open 1; valves a;", [[], [], wrong, wrong]), 2)

    def test_what_is_no_list(self):
        for wrong in (*WRONG_KINDS, (["a"],), 7, "a"):
            if not isinstance(wrong, list):
                with self.subTest(wrong):
                    self.assertEqual(first_error(BASE, wrong), 0)

    def test_the_log_is_not_changed(self):
        log = [["a"], ["a"], ["b"], ["c", "a"]]
        first_error(BASE, log)
        self.assertEqual(log, [["a"], ["a"], ["b"], ["c", "a"]])

    def test_drawn_plans(self):
        source = random.Random(60)
        for _ in range(60):
            plan, _, _ = draw_repeating(source, 100)
            log = [sorted(step[1]) for step in plan.run(250)]
            with self.subTest(plan.text):
                self.assertIsNone(first_error(plan.text, log))
                index = source.randrange(250)
                log[index] = log[index] + ["zz"]
                self.assertEqual(first_error(plan.text, log), index)


if __name__ == "__main__":
    unittest.main()
