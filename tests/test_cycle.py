"""Point 6: the situation, the cycle, TooLong, and late ticks."""

import random
import unittest

from tests.support import BASE, Drawn, FAR, LONG
from watervalves.errors import TooLong
from watervalves.machine import find_cycle, open_valves, trace, waiting

# Valves that never wait for each other: their cycles of 147, 51, 24 and 21 ticks have
# 19,992 ticks together, and the last start decides when the cycle begins.
NEAR = (
    "round 3; open 4; valves a b c d; start a 0 for 29; start a 2 for 30;"
    "start b 0 for 17; start c 0 for 8; start d {} for 7;"
)


class Cycles(unittest.TestCase):
    def test_plans_without_a_start(self):
        self.assertEqual(find_cycle("round 7; open 1; valves a;"), (0, 7))
        self.assertEqual(find_cycle("round 1; open 1; valves a; pause 0 0;"), (0, 1))
        self.assertEqual(open_valves("round 7; open 1; valves a b;", FAR), [])
        self.assertEqual(waiting("round 7; open 1; valves b a;", FAR), {"b": [], "a": []})
        self.assertEqual(list(trace("round 7; open 1; valves a;", 0, 499)), [])

    def test_a_cycle_of_one_round(self):
        self.assertEqual(find_cycle(BASE), (0, 6))

    def test_a_cycle_of_several_rounds(self):
        self.assertEqual(find_cycle("round 3; open 1; valves a; start a 0 for 4;"), (13, 12))

    def test_a_cycle_that_begins_within_a_round(self):
        plan = "round 5; open 1; valves a; start a 2 for 5; start a 2 for 5; start a 2 for 5;"
        self.assertEqual(find_cycle(plan), (3, 5))

    def test_the_water_that_is_left_belongs_to_the_situation(self):
        self.assertEqual(find_cycle("round 1; open 1; valves a; start a 0 for 3;"), (3, 3))

    def test_requests_that_wait_belong_to_the_situation(self):
        self.assertEqual(find_cycle("round 2; open 1; valves a; start a 1 for 1; pause 0 1;"), (4, 2))

    def test_their_ticks_of_water_belong_to_the_situation(self):
        plan = "round 1; open 1; valves a; start a 0 for 1; start a 0 for 2;"
        self.assertEqual(find_cycle(plan), (4, 1))

    def test_their_order_belongs_to_the_situation(self):
        # Before ticks 4 and 8 the requests of 1 and 3 ticks wait, in different orders.
        plan = "round 2; open 1; valves a; start a 0 for 1; start a 1 for 3;"
        self.assertEqual([waiting(plan, tick)["a"] for tick in (3, 7)], [[1, 3], [3, 1]])
        self.assertEqual(find_cycle(plan), (9, 4))

    def test_the_place_in_the_round_belongs_to_the_situation(self):
        self.assertEqual(find_cycle("round 60; open 1; valves a; start a 59 for 1;"), (0, 60))

    def test_the_tuple(self):
        self.assertIs(type(find_cycle(BASE)), tuple)


class TooLongPlans(unittest.TestCase):
    def test_a_situation_that_comes_again_in_tick_20000(self):
        self.assertEqual(find_cycle(NEAR.format(1)), (8, 19992))

    def test_a_situation_that_comes_again_in_tick_20001(self):
        self.assertRaises(TooLong, find_cycle, NEAR.format(2))

    def test_all_functions_on_ticks(self):
        self.assertRaises(TooLong, find_cycle, LONG)
        for tick in (0, 5, FAR):
            with self.subTest(tick):
                self.assertRaises(TooLong, open_valves, LONG, tick)
                self.assertRaises(TooLong, waiting, LONG, tick)
                self.assertRaises(TooLong, next, trace(LONG, tick, tick))
                self.assertRaises(TooLong, next, trace(LONG, tick, tick - 1))

    def test_one_tick_of_water_less(self):
        plan = "round 1; open 3; valves a b c; start a 0 for 29; start b 0 for 27; start c 0 for 25;"
        begin, length = find_cycle(plan)
        self.assertEqual(length, 29 * 27 * 25)
        self.assertLess(begin, 30)


class OpenValves(unittest.TestCase):
    def test_the_order_behind_valves(self):
        plan = "round 9; open 3; valves c a b; rank b a c; start a 0 for 1; start b 0 for 1; start c 0 for 1;"
        self.assertEqual(open_valves(plan, 0), ["c", "a", "b"])

    def test_the_list_is_new(self):
        found = open_valves(BASE, 0)
        self.assertIs(type(found), list)
        found.append("z")
        self.assertEqual(open_valves(BASE, 0), ["a"])


class Waiting(unittest.TestCase):
    def test_the_order_behind_valves(self):
        plan = "round 9; open 1; valves c a b; rank b; start b 3 for 1;"
        self.assertEqual(list(waiting(plan, 5)), ["c", "a", "b"])

    def test_after_the_tick(self):
        self.assertEqual(waiting(BASE, 1), {"a": [], "b": [2]})
        self.assertEqual(waiting(BASE, 2), {"a": [], "b": []})

    def test_several_requests_the_oldest_first(self):
        plan = "round 9; open 1; valves a b; start a 0 for 8; start b 1 for 3; start b 2 for 1;"
        self.assertEqual(waiting(plan, 2), {"a": [], "b": [3, 1]})

    def test_around_the_ends_of_the_cycle(self):
        # Its cycle begins with tick 7 and has 6 ticks.
        plan = "round 2; open 1; valves a; start a 0 for 3;"
        found = [len(waiting(plan, tick)["a"]) for tick in range(20)]
        self.assertEqual(found, [0, 0, 1, 0, 1, 1] + [1, 1, 2, 1, 2, 2] * 2 + [1, 1])

    def test_the_dict_and_its_lists_are_new(self):
        found = waiting(BASE, 1)
        self.assertIs(type(found), dict)
        self.assertIs(type(found["b"]), list)
        found["b"].append(9)
        del found["a"]
        self.assertEqual(waiting(BASE, 1), {"a": [], "b": [2]})


class LateTicks(unittest.TestCase):
    def assert_repeats(self, plan, late):
        """A late tick gives what the tick at its place in the first cycle gives."""
        begin, length = find_cycle(plan)
        early = begin + (late - begin) % length
        self.assertEqual(open_valves(plan, late), open_valves(plan, early))
        self.assertEqual(waiting(plan, late), waiting(plan, early))
        moved = [(tick - early + late, word, name) for tick, word, name in trace(plan, early, early)]
        self.assertEqual(list(trace(plan, late, late)), moved)

    def test_drawn_plans(self):
        source = random.Random(42)
        for _ in range(40):
            plan = Drawn(source).text
            with self.subTest(plan):
                for late in (FAR, FAR - source.randint(1, 1000), source.randint(10 ** 5, FAR)):
                    self.assert_repeats(plan, late)

    def test_a_cycle_that_begins_late(self):
        plan = "round 2; open 1; valves a; start a 0 for 3;"
        for late in range(FAR - 14, FAR + 1):
            self.assert_repeats(plan, late)


class DrawnPlans(unittest.TestCase):
    """The first ticks and the cycle against a model of their own."""

    def test_first_ticks(self):
        source = random.Random(43)
        for _ in range(60):
            plan = Drawn(source)
            with self.subTest(plan.text):
                model = plan.model()
                steps = [model.step() for _ in range(60)]
                self.assertEqual(list(trace(plan.text, 0, 59)), [event for step in steps for event in step[0]])
                for tick in (0, 1, 2, 7, 23, 42, 59):
                    self.assertEqual(open_valves(plan.text, tick), steps[tick][1])
                    self.assertEqual(waiting(plan.text, tick), steps[tick][2])

    def test_cycles(self):
        source = random.Random(44)
        for _ in range(120):
            plan = Drawn(source)
            with self.subTest(plan.text):
                self.assertEqual(self.cycle_of(plan), self.found(plan))

    def cycle_of(self, plan):
        model = plan.model()
        situations = []
        while model.tick <= 20000:
            situation = model.situation()
            if situation in situations[model.tick % plan.period :: plan.period]:
                begin = situations.index(situation)
                return begin, model.tick - begin
            situations.append(situation)
            model.step()
        return None

    def found(self, plan):
        try:
            return find_cycle(plan.text)
        except TooLong:
            return None


if __name__ == "__main__":
    unittest.main()
