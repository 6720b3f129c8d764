"""Point 8: the longest delay and the late valves."""

import random
import unittest

from tests.support import BASE, draw_repeating
from watervalves.counting import late_valves, longest_delay
from watervalves.machine import find_cycle


class LongestDelay(unittest.TestCase):
    def assert_delay(self, plan, delay):
        self.assertEqual(longest_delay(plan), delay)

    def test_a_delay(self):
        self.assert_delay(BASE, (1, "b", 1))
        self.assertIs(type(longest_delay(BASE)), tuple)

    def test_no_delay(self):
        self.assert_delay("round 6; open 2; valves a b; start b 3 for 2; start a 4 for 2;", (0, "b", 3))

    def test_no_requests(self):
        self.assertIsNone(longest_delay("round 6; open 1; valves a b;"))
        self.assertIsNone(longest_delay("round 6; open 1; valves a b; pause 0 5;"))

    def test_the_first_of_several_in_different_ticks(self):
        plan = "round 9; open 1; valves a b; start b 0 for 1; start a 4 for 1; pause 0 1; pause 4 5;"
        self.assert_delay(plan, (2, "b", 0))

    def test_the_first_valve_of_several_in_one_tick(self):
        parts = "start a 2 for 1; start b 2 for 1; start c 2 for 1; pause 2 3;"
        self.assert_delay("round 9; open 3; valves c a b; rank b;" + parts, (2, "c", 2))
        self.assert_delay("round 9; open 3; valves b c a; rank a;" + parts, (2, "b", 2))

    def test_the_first_one_that_is_opened_may_not_be_the_first_one_that_comes(self):
        # a comes in tick 0 and waits for five ticks, c comes in tick 1 and waits for three.
        plan = "round 20; open 1; valves a b c; rank b c a; start a 0 for 1; start b 0 for 4; start c 1 for 1;"
        self.assert_delay(plan, (5, "a", 0))

    def test_requests_in_one_tick_for_one_valve(self):
        self.assert_delay("round 9; open 1; valves a; start a 3 for 4; start a 3 for 1;", (4, "a", 3))

    def test_lost_requests_have_no_delay(self):
        self.assert_delay("round 9; open 1; valves a;" + "start a 3 for 2;" * 4, (2, "a", 3))

    def test_a_delay_that_grows_before_the_cycle(self):
        # Requests come in even ticks, and the valve is opened in each third tick. The
        # request of tick 10 is opened in tick 15, behind the end of the first cycle.
        plan = "round 2; open 1; valves a; start a 0 for 3;"
        self.assertEqual(find_cycle(plan), (7, 6))
        self.assert_delay(plan, (5, "a", 10))

    def test_over_many_rounds(self):
        # Only tick 0 of the round has water: one opening in each round.
        # The request of tick 61 waits behind that of tick 2, which is opened in tick 120.
        plan = "round 60; open 1; valves a; start a 1 for 1; start a 2 for 1; pause 1 59;"
        self.assert_delay(plan, (119, "a", 61))

    def test_never_opened_in_a_round_without_water(self):
        self.assert_delay("round 3; open 1; valves b a; start a 1 for 1; start b 2 for 1; pause 0 2;", (None, "a", 1))

    def test_never_opened_for_want_of_a_place(self):
        plan = "round 1; open 1; valves a b; start a 0 for 1; start b 0 for 1;"
        self.assert_delay(plan, (None, "b", 0))

    def test_never_opened_again(self):
        # b is opened in tick 0, and a takes all ticks from the first one on.
        plan = "round 2; open 1; valves a b; start b 0 for 1; start a 1 for 2;"
        self.assert_delay(plan, (None, "b", 2))

    def test_never_opened_after_long_delays(self):
        # c is opened first, when a and b do not come yet, and waits for long.
        plan = "round 4; open 1; valves a b c; start c 0 for 1; start b 1 for 3; start a 2 for 3;"
        delay, name, tick = longest_delay(plan)
        self.assertEqual((delay, name, tick), (None, "c", 4))

    def test_the_first_of_several_that_are_never_opened(self):
        start = "start a 0 for 1; start b 0 for 1; start c 0 for 1;"
        self.assert_delay("round 1; open 1; valves c b a; rank a;" + start, (None, "c", 0))
        plan = "round 3; open 1; valves a b c; start a 0 for 3; start b 2 for 1; start c 1 for 1;"
        self.assert_delay(plan, (None, "c", 1))

    def test_drawn_plans(self):
        source = random.Random(54)
        for _ in range(200):
            plan, begin, length = draw_repeating(source, 200)
            with self.subTest(plan.text):
                self.assert_delay(plan.text, self.expected(plan, begin + length))

    def expected(self, plan, end):
        """Return the delay by the words of the point, from the events of a model."""
        comes = {name: [] for name in plan.names}
        delays = {}
        for events, _, _ in plan.run(4 * end):
            for tick, word, name in events:
                if word == "ask":
                    comes[name].append(tick)
                elif word == "lost":
                    comes[name].pop()
                elif word == "open":
                    came = comes[name].pop(0)
                    delays.setdefault(tick - came, []).append((came, plan.names.index(name)))
        never = [(tick, plan.names.index(name)) for name in comes for tick in comes[name] if tick < end]
        if never:
            tick, number = min(never)
            return None, plan.names[number], tick
        if not delays:
            return None
        tick, number = min(delays[max(delays)])
        return max(delays), plan.names[number], tick


class LateValves(unittest.TestCase):
    def assert_late(self, plan, expected):
        self.assertEqual(late_valves(plan), expected)

    def test_none(self):
        self.assert_late(BASE, [])
        self.assert_late("round 6; open 1; valves a b;", [])

    def test_the_order_behind_valves(self):
        self.assert_late("round 3; open 1; valves a b; start a 0 for 4; start b 1 for 1;", ["a", "b"])
        self.assert_late("round 3; open 1; valves c b a; rank a; start a 0 for 4; start c 1 for 1;", ["c", "a"])

    def test_while_the_valve_is_open(self):
        self.assert_late("round 4; open 1; valves a; start a 0 for 4;", [])
        self.assert_late("round 4; open 1; valves a; start a 0 for 5;", ["a"])
        self.assert_late("round 9; open 1; valves a; start a 0 for 2; start a 1 for 1;", ["a"])
        self.assert_late("round 9; open 1; valves a; start a 0 for 2; start a 2 for 1;", [])

    def test_while_the_valve_is_held_open_by_a_pause(self):
        self.assert_late("round 9; open 1; valves a; start a 0 for 2; start a 2 for 1; pause 1 1;", ["a"])

    def test_while_an_earlier_request_waits(self):
        self.assert_late("round 9; open 1; valves a; start a 0 for 1; start a 2 for 1; pause 0 2;", ["a"])
        self.assert_late("round 9; open 1; valves a; start a 0 for 1; start a 2 for 1; pause 0 0;", [])

    def test_two_requests_of_one_tick(self):
        self.assert_late("round 9; open 2; valves a b; start a 4 for 1; start a 4 for 1; start b 4 for 1;", ["a"])

    def test_another_valve_does_not_count(self):
        self.assert_late("round 9; open 1; valves a b; start a 0 for 3; start b 1 for 1;", [])

    def test_requests_that_are_lost(self):
        # In the first tick two requests wait, and all later ones are lost.
        self.assert_late("round 9; open 1; valves a b; start b 3 for 1; pause 0 8;", ["b"])
        self.assert_late("round 9; open 9; valves a b;" + "start b 3 for 1;" * 3, ["b"])

    def test_late_in_a_later_round_only(self):
        # b waits for a whole round from the second round on.
        plan = "round 5; open 1; valves a b; rank a; start a 2 for 5; start b 0 for 1;"
        self.assert_late(plan, ["b"])

    def test_the_list_is_new(self):
        self.assertIs(type(late_valves(BASE)), list)

    def test_drawn_plans(self):
        source = random.Random(55)
        for _ in range(150):
            plan, begin, length = draw_repeating(source, 200)
            with self.subTest(plan.text):
                self.assert_late(plan.text, self.expected(plan, begin + 2 * length))

    def expected(self, plan, ticks):
        """Return the late valves by the words of the point, from the events of a model."""
        waits = {name: 0 for name in plan.names}
        is_open = {name: False for name in plan.names}
        late = set()
        for events, _, _ in plan.run(ticks):
            for _, word, name in events:
                if word == "ask":
                    if waits[name] or is_open[name]:
                        late.add(name)
                    waits[name] += 1
                elif word == "lost":
                    waits[name] -= 1
                elif word == "open":
                    waits[name] -= 1
                    is_open[name] = True
                elif word == "close":
                    is_open[name] = False
        return [name for name in plan.names if name in late]


if __name__ == "__main__":
    unittest.main()
