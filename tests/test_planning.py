"""Point 9: calm plans, the fewest shifts, and pauses that change nothing."""

import itertools
import random
import unittest

from tests.support import BASE, LONG, WRONG_KINDS, Model, draw_repeating
from watervalves.errors import InvalidCount, TooLong, TooManyStarts
from watervalves.formatter import format_plan
from watervalves.planning import idle_pauses, least_open, plan_shifts


def is_calm(model):
    """Tell by the words of the point whether each request of a model is opened at once."""
    for _ in range(4 * model.period + 60):
        events, _, _ = model.step()
        asked = sorted(name for _, word, name in events if word == "ask")
        if asked != sorted(name for _, word, name in events if word == "open"):
            return False
    return True


class LeastOpen(unittest.TestCase):
    def test_enough_for_those_that_are_open_at_once(self):
        self.assertEqual(least_open(BASE), 2)
        self.assertEqual(least_open("round 6; open 1; valves a b; start a 0 for 2; start b 2 for 2;"), 1)

    def test_the_number_of_the_plan_does_not_matter(self):
        for limit in range(1, 10):
            self.assertEqual(least_open(BASE.replace("open 1", f"open {limit}")), 2)

    def test_no_requests(self):
        self.assertEqual(least_open("round 6; open 4; valves a b;"), 1)
        self.assertEqual(least_open("round 6; open 4; valves a b; pause 0 5;"), 1)

    def test_all_valves_at_once(self):
        names = "abcdefgh"
        starts = "".join(f"start {name} 3 for 2;" for name in names)
        self.assertEqual(least_open(f"round 9; open 1; valves {' '.join(names)};" + starts), 8)

    def test_valves_that_are_open_from_the_round_before(self):
        self.assertEqual(least_open("round 3; open 1; valves a b; start a 2 for 2; start b 0 for 1;"), 2)
        self.assertEqual(least_open("round 3; open 1; valves a b; start a 2 for 1; start b 0 for 1;"), 1)

    def test_valves_that_are_held_open_by_a_pause(self):
        self.assertEqual(least_open("round 9; open 1; valves a b; start a 0 for 2; start b 2 for 1;"), 1)
        self.assertEqual(least_open("round 9; open 1; valves a b; start a 0 for 2; start b 2 for 1; pause 1 1;"), 2)
        # The pause begins when the valve is closed already.
        self.assertEqual(least_open("round 9; open 1; valves a b; start a 0 for 2; start b 4 for 1; pause 2 3;"), 1)

    def test_a_request_that_comes_in_a_pause(self):
        self.assertIsNone(least_open("round 9; open 1; valves a; start a 3 for 1; pause 3 3;"))
        self.assertIsNone(least_open("round 9; open 1; valves a b; start a 3 for 1; start b 5 for 1; pause 4 5;"))

    def test_a_request_that_comes_while_its_own_valve_is_open(self):
        self.assertEqual(least_open("round 3; open 1; valves a; start a 0 for 3;"), 1)
        self.assertIsNone(least_open("round 3; open 1; valves a; start a 0 for 4;"))
        self.assertIsNone(least_open("round 9; open 1; valves a; start a 0 for 3; start a 2 for 1;"))
        self.assertEqual(least_open("round 9; open 1; valves a; start a 0 for 2; start a 2 for 1;"), 1)
        # The valve is open from tick 8 to tick 1 of the next round.
        self.assertIsNone(least_open("round 9; open 1; valves a; start a 8 for 3; start a 1 for 1;"))
        self.assertEqual(least_open("round 9; open 1; valves a; start a 8 for 3; start a 2 for 1;"), 1)

    def test_two_requests_for_one_valve_in_one_tick(self):
        self.assertIsNone(least_open("round 9; open 1; valves a; start a 0 for 1; start a 0 for 1;"))

    def test_too_long(self):
        self.assertRaises(TooLong, least_open, LONG)

    def test_drawn_plans(self):
        source = random.Random(56)
        found = []
        for _ in range(300):
            plan, _, _ = draw_repeating(source, 20000, easy=True)
            with self.subTest(plan.text):
                found.append(self.expected(plan))
                self.assertEqual(least_open(plan.text), found[-1])
        self.assertGreater(len([most for most in found if most and most > 1]), 10)

    def expected(self, plan):
        for limit in range(1, 10):
            if is_calm(Model(plan.period, limit, plan.names, plan.rank, plan.starts, plan.paused)):
                return limit
        return None


class PlanShifts(unittest.TestCase):
    def test_a_shift(self):
        text = "round 6;\nopen 1;\nvalves a b;\nstart a 0 for 2;\nstart b 2 for 2;"
        self.assertEqual(plan_shifts(BASE, 2), (1, [0, 1], text))
        self.assertEqual(plan_shifts(BASE, 1), (1, [0, 1], text))
        self.assertEqual(plan_shifts(BASE, 12), (1, [0, 1], text))

    def test_the_limit(self):
        self.assertIsNone(plan_shifts(BASE, 0))
        plan = "round 20; open 1; valves a; start a 0 for 1; pause 0 {};"
        self.assertEqual(plan_shifts(plan.format(11), 12)[:2], (12, [12]))
        self.assertIsNone(plan_shifts(plan.format(11), 11))
        self.assertIsNone(plan_shifts(plan.format(12), 12))

    def test_a_calm_plan(self):
        plan = BASE.replace("open 1", "open 2")
        for limit in (0, 5, 12):
            self.assertEqual(plan_shifts(plan, limit), (0, [0, 0], format_plan(plan)))

    def test_no_starts(self):
        plan = "round 6; open 1; valves a; pause 1 2;"
        for limit in (0, 12):
            self.assertEqual(plan_shifts(plan, limit), (0, [], format_plan(plan)))

    def test_the_first_list_in_list_order(self):
        plan = "round 9; open 1; valves a b c; start a 0 for 1; start b 0 for 1; start c 0 for 1;"
        self.assertEqual(plan_shifts(plan, 12)[:2], (3, [0, 1, 2]))

    def test_the_total_goes_before_the_list_order(self):
        # To let a be first, b must be shifted by four ticks, and a by one to be the last.
        plan = "round 9; open 1; valves a b; start a 0 for 4; start b 0 for 1;"
        self.assertEqual(plan_shifts(plan, 12)[:2], (1, [1, 0]))

    def test_the_order_of_the_canonical_text(self):
        plan = "round 9; open 1; valves b a; start a 3 for 1; start a 0 for 1; start b 3 for 1;"
        text = "round 9;\nopen 1;\nvalves b a;\nstart a 0 for 1;\nstart b 3 for 1;\nstart a 4 for 1;"
        self.assertEqual(plan_shifts(plan, 12), (1, [0, 0, 1], text))

    def test_the_starts_of_the_new_plan_are_in_their_order(self):
        plan = "round 9; open 1; valves a b; rank b; start a 0 for 4; start b 1 for 1; pause 8 8; pause 7 7;"
        text = "round 9;\nopen 1;\nvalves a b;\nrank b a;\nstart b 1 for 1;\nstart a 2 for 4;\npause 7 8;"
        self.assertEqual(plan_shifts(plan, 12), (2, [2, 0], text))

    def test_no_start_is_shifted_beyond_the_round(self):
        plan = "round {}; open 1; valves a b; start a 3 for 1; start b 3 for 1;"
        self.assertIsNone(plan_shifts(plan.format(4), 12))
        self.assertEqual(plan_shifts(plan.format(5), 12)[:2], (1, [0, 1]))
        self.assertIsNone(plan_shifts("round 4; open 1; valves a; start a 3 for 1; pause 3 3;", 12))
        self.assertIsNone(plan_shifts("round 1; open 1; valves a; start a 0 for 1; pause 0 0;", 12))

    def test_a_start_at_the_last_tick(self):
        # The valve is then open in the first ticks of the next round.
        plan = "round 5; open 1; valves a b; start a 3 for 2; start b 4 for 3;"
        self.assertEqual(plan_shifts(plan, 12), None)
        plan = "round 6; open 1; valves a b; start a 3 for 2; start b 4 for 3;"
        self.assertEqual(plan_shifts(plan, 12)[:2], (1, [0, 1]))

    def test_shifts_out_of_a_pause(self):
        plan = "round 9; open 1; valves a; start a 1 for 2; pause 0 3; pause 5 6;"
        text = "round 9;\nopen 1;\nvalves a;\nstart a 4 for 2;\npause 0 3;\npause 5 6;"
        self.assertEqual(plan_shifts(plan, 12), (3, [3], text))

    def test_no_shifts_help(self):
        self.assertIsNone(plan_shifts("round 3; open 1; valves a; start a 0 for 4;", 12))
        self.assertIsNone(plan_shifts("round 3; open 1; valves a b; start a 0 for 2; start b 0 for 2;", 12))

    def test_six_and_seven_starts(self):
        names = "abcdefg"
        plan = "round 60; open 3; valves " + " ".join(names) + ";"
        starts = [f"start {name} 5 for 2;" for name in names]
        self.assertEqual(plan_shifts(plan + "".join(starts[:6]), 12)[:2], (6, [0, 0, 0, 2, 2, 2]))
        for limit in (0, 12):
            self.assertRaises(TooManyStarts, plan_shifts, plan + "".join(starts), limit)

    def test_wrong_limits(self):
        for limit in (-1, 13, 10 ** 18, *WRONG_KINDS):
            with self.subTest(limit):
                self.assertRaises(InvalidCount, plan_shifts, BASE, limit)

    def test_too_long(self):
        self.assertRaises(TooLong, plan_shifts, LONG, 12)

    def test_the_kinds_of_values(self):
        total, shifts, text = found = plan_shifts(BASE, 2)
        self.assertEqual([type(part) for part in (found, total, shifts, text)], [tuple, int, list, str])

    def test_drawn_plans(self):
        source = random.Random(57)
        found = []
        while len(found) < 60:
            plan, _, _ = draw_repeating(source, 20000, easy=True)
            if 2 <= len(plan.starts) <= 4 and plan.period > 3:
                limit = source.randint(1, 4)
                expected = self.expected(plan, limit)
                with self.subTest(plan=plan.text, limit=limit):
                    self.assertEqual(plan_shifts(plan.text, limit), expected)
                found.append(expected)
        self.assertGreater(len([row for row in found if row and row[0] > 0]), 3)

    def expected(self, plan, limit):
        """Try all shifts, the fewest and the first ones before the others."""
        starts = sorted(plan.starts, key=lambda start: (start[1], plan.names.index(start[0])))
        lists = [list(row) for row in itertools.product(range(limit + 1), repeat=len(starts))]
        for total, shifts in sorted((sum(row), row) for row in lists if sum(row) <= limit):
            moved = [(name, tick + shift, many) for (name, tick, many), shift in zip(starts, shifts)]
            if all(tick < plan.period for _, tick, _ in moved):
                if is_calm(Model(plan.period, plan.limit, plan.names, plan.rank, moved, plan.paused)):
                    return total, shifts, format_plan(self.write(plan, moved))
        return None

    def write(self, plan, starts):
        rows = [f"start {name} {tick} for {many};" for name, tick, many in starts]
        rows += [f"pause {tick} {tick};" for tick in plan.paused]
        head = f"round {plan.period}; open {plan.limit}; valves {' '.join(plan.names)};"
        return head + f"rank {' '.join(plan.rank)};" + "".join(rows)


class IdlePauses(unittest.TestCase):
    def test_no_pauses(self):
        self.assertEqual(idle_pauses(BASE), [])

    def test_no_starts(self):
        self.assertEqual(idle_pauses("round 6; open 1; valves a; pause 4 5; pause 1 1;"), [1, 4, 5])

    def test_while_a_valve_is_held_open(self):
        self.assertEqual(idle_pauses("round 6; open 1; valves a; start a 0 for 2; pause 1 1; pause 4 5;"), [4, 5])
        self.assertEqual(idle_pauses("round 6; open 1; valves a; start a 0 for 2; pause 1 2; pause 4 5;"), [4, 5])

    def test_directly_after_the_last_water(self):
        self.assertEqual(idle_pauses("round 6; open 1; valves a; start a 0 for 2; pause 2 3;"), [2, 3])

    def test_a_request_that_comes_in_the_pause(self):
        self.assertEqual(idle_pauses("round 6; open 1; valves a; start a 2 for 1; pause 1 3;"), [1])

    def test_a_valve_that_is_open_in_later_rounds_only(self):
        # In the first round nothing is open in tick 0.
        self.assertEqual(idle_pauses("round 6; open 1; valves a; start a 4 for 3; pause 0 0; pause 2 2;"), [2])

    def test_a_request_that_waits_in_later_rounds_only(self):
        plan = "round 4; open 1; valves a b; start a 1 for 3; start b 3 for 2; pause 0 0;"
        self.assertEqual(idle_pauses(plan), [])

    def test_a_round_without_water(self):
        self.assertEqual(idle_pauses("round 3; open 1; valves a; pause 0 2;"), [0, 1, 2])
        # From tick 1 on a request waits for ever.
        self.assertEqual(idle_pauses("round 3; open 1; valves a; start a 1 for 1; pause 0 2;"), [])

    def test_too_long(self):
        self.assertRaises(TooLong, idle_pauses, LONG)

    def test_the_list_is_new(self):
        self.assertIs(type(idle_pauses(BASE)), list)

    def test_drawn_plans(self):
        source = random.Random(58)
        some = 0
        for _ in range(250):
            plan, begin, length = draw_repeating(source, 150, easy=source.random() < 0.7)
            with self.subTest(plan.text):
                expected = [tick for tick in plan.paused if self.is_idle(plan, tick, 2 * (begin + length))]
                self.assertEqual(idle_pauses(plan.text), expected)
                some += 0 < len(expected) < len(plan.paused)
        self.assertGreater(some, 3)

    def is_idle(self, plan, tick, ticks):
        rest = [other for other in plan.paused if other != tick]
        model = Model(plan.period, plan.limit, plan.names, plan.rank, plan.starts, rest)
        return [step[1] for step in plan.run(ticks)] == [model.step()[1] for _ in range(ticks)]


if __name__ == "__main__":
    unittest.main()
