"""Point 7: openings, lost requests and water, in any number of ticks."""

import random
import unittest

from tests.support import BASE, FAR, WRONG_KINDS, WRONG_NAMES, draw_repeating
from watervalves.counting import count_lost, count_openings, nth_opening, opening_ticks, water
from watervalves.errors import InvalidCount, InvalidTick, UnknownValve
from watervalves.machine import find_cycle, open_valves, trace

COUNTS = (count_openings, count_lost, water)
# Its cycle begins with tick 7 and has 6 ticks; a request is lost in ticks 12, 18, 24 ...
FULL = "round 2; open 1; valves a; start a 0 for 3;"
# b is opened in tick 0 only, since a always goes first.
ONCE = "round 2; open 1; valves a b; start b 0 for 1; start a 1 for 2;"
# Valves that are never opened: b for want of water, c for want of a start.
NEVER = "round 3; open 1; valves a b c; start a 0 for 3; start b 1 for 1; start b 1 for 1; start b 2 for 1;"


class Counts(unittest.TestCase):
    def test_openings(self):
        self.assertEqual([count_openings(BASE, "b", ticks) for ticks in range(10)], [0, 0, 0, 1, 1, 1, 1, 1, 1, 2])
        self.assertEqual([count_openings(BASE, "a", ticks) for ticks in (0, 1, 6, 7)], [0, 1, 1, 2])

    def test_water(self):
        self.assertEqual([water(BASE, "b", ticks) for ticks in range(10)], [0, 0, 0, 1, 2, 2, 2, 2, 2, 3])

    def test_lost(self):
        self.assertEqual(find_cycle(FULL), (7, 6))
        expected = [0] * 13 + [1] * 6 + [2] * 6 + [3]
        self.assertEqual([count_lost(FULL, "a", ticks) for ticks in range(26)], expected)

    def test_several_requests_for_one_valve_in_one_tick(self):
        plan = "round 9; open 1; valves a b; start a 3 for 2;" + "start b 3 for 1;" * 5
        self.assertEqual([count_lost(plan, "b", ticks) for ticks in (3, 4, 12, 13)], [0, 3, 3, 6])
        self.assertEqual(count_lost(plan, "a", 13), 0)
        self.assertEqual([count_openings(plan, "b", ticks) for ticks in (5, 6, 7, 9)], [0, 1, 2, 2])

    def test_paused_ticks_do_not_count_as_water(self):
        plan = "round 9; open 1; valves a; start a 0 for 3; pause 1 4;"
        self.assertEqual([water(plan, "a", ticks) for ticks in range(10)], [0, 1, 1, 1, 1, 1, 2, 3, 3, 3])
        self.assertEqual(count_openings(plan, "a", 9), 1)

    def test_requests_are_lost_in_pauses(self):
        plan = "round 4; open 1; valves a; start a 1 for 1; start a 2 for 1; start a 3 for 1; pause 0 3;"
        self.assertEqual([count_lost(plan, "a", ticks) for ticks in (3, 4, 8, 400)], [0, 1, 4, 298])
        self.assertEqual([count_openings(plan, "a", FAR), water(plan, "a", FAR)], [0, 0])
        self.assertEqual(count_lost(plan, "a", FAR), 3 * FAR // 4 - 2)

    def test_no_ticks(self):
        for call in COUNTS:
            self.assertEqual([call(FULL, "a", 0), call(BASE, "b", 0)], [0, 0])

    def test_a_valve_without_a_start(self):
        for call in COUNTS:
            self.assertEqual([call(NEVER, "c", 5), call(NEVER, "c", FAR)], [0, 0])

    def test_a_plan_without_starts(self):
        for call in COUNTS:
            self.assertEqual(call("round 7; open 1; valves a; pause 2 3;", "a", FAR), 0)

    def test_a_valve_that_is_never_opened(self):
        self.assertEqual([count_openings(NEVER, "b", FAR), water(NEVER, "b", FAR)], [0, 0])
        # Three requests come in each round, and the first two of all wait for ever.
        self.assertEqual(count_lost(NEVER, "b", FAR), FAR // 3 * 3 - 2)

    def test_a_valve_that_is_opened_before_the_cycle_only(self):
        self.assertEqual([count_openings(ONCE, "b", ticks) for ticks in (0, 1, 2, FAR)], [0, 1, 1, 1])
        self.assertEqual([water(ONCE, "b", ticks) for ticks in (0, 1, FAR)], [0, 1, 1])

    def test_most_ticks(self):
        # 10 ** 18 is 4 modulo 6.
        rounds = FAR // 6
        self.assertEqual(count_openings(BASE, "b", FAR), rounds + 1)
        self.assertEqual(water(BASE, "b", FAR), 2 * rounds + 2)
        self.assertEqual(water(BASE, "b", FAR - 1), 2 * rounds + 1)
        self.assertEqual(count_lost(BASE, "b", FAR), 0)
        # Requests come in even ticks, and from tick 12 on each third one is lost.
        self.assertEqual(count_lost(FULL, "a", FAR), (FAR - 13) // 6 + 1)
        self.assertEqual(water(FULL, "a", FAR), FAR)

    def test_the_results_are_integers(self):
        for call in COUNTS:
            for ticks in (0, 1, 30, FAR):
                self.assertIs(type(call(FULL, "a", ticks)), int)


class DrawnPlans(unittest.TestCase):
    def test_first_ticks(self):
        source = random.Random(51)
        for _ in range(40):
            plan, _, _ = draw_repeating(source, 500)
            steps = plan.run(150)
            name = source.choice(plan.names)
            events = [event for step in steps for event in step[0]]
            with self.subTest(plan=plan.text, name=name):
                for ticks in [0, 1, 2, *source.sample(range(151), 6), 150]:
                    early = [word for tick, word, other in events if tick < ticks and other == name]
                    self.assertEqual(count_openings(plan.text, name, ticks), early.count("open"))
                    self.assertEqual(count_lost(plan.text, name, ticks), early.count("lost"))
                    wet = [name in step[1] for step in steps[:ticks]]
                    self.assertEqual(water(plan.text, name, ticks), wet.count(True))

    def test_each_tick_adds_what_happens_in_it(self):
        source = random.Random(52)
        for _ in range(30):
            plan, begin, length = draw_repeating(source, 500)
            name = source.choice(plan.names)
            ends = [begin - 1, begin, begin + length - 1, begin + length, begin + 2 * length, FAR - 1]
            for tick in [*ends, source.randrange(FAR), source.randrange(10 ** 6)]:
                if tick >= 0:
                    with self.subTest(plan=plan.text, name=name, tick=tick):
                        self.assert_adds(plan.text, name, tick)

    def assert_adds(self, plan, name, tick):
        words = [word for _, word, other in trace(plan, tick, tick) if other == name]
        added = [call(plan, name, tick + 1) - call(plan, name, tick) for call in COUNTS]
        wet = int(name in open_valves(plan, tick))
        self.assertEqual(added, [words.count("open"), words.count("lost"), wet])

    def test_the_openings_agree(self):
        source = random.Random(53)
        for _ in range(40):
            plan, begin, length = draw_repeating(source, 100)
            name = source.choice(plan.names)
            with self.subTest(plan=plan.text, name=name):
                self.assert_openings(plan.text, name, begin, length)

    def assert_openings(self, plan, name, begin, length):
        before, inside = opening_ticks(plan, name)
        self.assertEqual([before, inside], [sorted(before), sorted(inside)])
        self.assertEqual(len(before), count_openings(plan, name, begin))
        self.assertEqual(len(before + inside), count_openings(plan, name, begin + length))
        for number, tick in enumerate(before + inside):
            self.assertEqual(nth_opening(plan, name, number + 1), tick)
        for number in (1, 2, 7, 1000, 10 ** 12 + 7):
            tick = nth_opening(plan, name, number)
            if tick is None:
                self.assertEqual(inside, [])
                self.assertGreater(number, len(before))
            else:
                self.assertEqual(count_openings(plan, name, tick), number - 1)
                self.assertEqual(count_openings(plan, name, tick + 1), number)


class OpeningTicks(unittest.TestCase):
    def test_before_and_in_the_cycle(self):
        self.assertEqual(opening_ticks(FULL, "a"), ([0, 3, 6], [9, 12]))
        self.assertEqual(opening_ticks(BASE, "a"), ([], [0]))

    def test_at_the_ends_of_the_cycle(self):
        # The cycle has tick 0 alone, and an opening in it.
        self.assertEqual(opening_ticks("round 1; open 1; valves a; start a 0 for 1;", "a"), ([], [0]))
        # The cycle begins with tick 3, in which the valve is opened.
        plan = "round 1; open 1; valves a b; start a 0 for 3; start b 0 for 1;"
        self.assertEqual([find_cycle(plan), opening_ticks(plan, "a")], [(3, 3), ([0], [3])])

    def test_before_the_cycle_only(self):
        self.assertEqual(opening_ticks(ONCE, "b"), ([0], []))

    def test_never(self):
        self.assertEqual(opening_ticks(NEVER, "b"), ([], []))
        self.assertEqual(opening_ticks(NEVER, "c"), ([], []))
        self.assertEqual(opening_ticks("round 7; open 1; valves a;", "a"), ([], []))

    def test_the_kinds_of_values(self):
        found = opening_ticks(FULL, "a")
        self.assertEqual([type(found), type(found[0]), type(found[1])], [tuple, list, list])


class NthOpening(unittest.TestCase):
    def test_in_and_before_the_cycle(self):
        self.assertEqual([nth_opening(FULL, "a", number) for number in range(1, 9)], [0, 3, 6, 9, 12, 15, 18, 21])
        self.assertEqual([nth_opening(BASE, "b", number) for number in (1, 2, 3)], [2, 8, 14])

    def test_the_last_number(self):
        self.assertEqual(nth_opening(BASE, "b", FAR), 2 + 6 * (FAR - 1))
        self.assertEqual(nth_opening(FULL, "a", FAR), 3 * (FAR - 1))
        self.assertEqual(nth_opening("round 1; open 1; valves a; start a 0 for 1;", "a", FAR), FAR - 1)

    def test_too_few_openings(self):
        self.assertEqual([nth_opening(ONCE, "b", number) for number in (1, 2, FAR)], [0, None, None])
        self.assertEqual([nth_opening(NEVER, "b", number) for number in (1, FAR)], [None, None])
        self.assertEqual([nth_opening(NEVER, "c", number) for number in (1, FAR)], [None, None])


class WrongInputs(unittest.TestCase):
    def test_unknown_valves(self):
        for name in WRONG_NAMES:
            with self.subTest(name):
                for call in (*COUNTS, nth_opening):
                    self.assertRaises(UnknownValve, call, BASE, name, 1)
                self.assertRaises(UnknownValve, opening_ticks, BASE, name)

    def test_a_valve_of_another_plan(self):
        self.assertRaises(UnknownValve, water, FULL, "b", 1)
        self.assertEqual(water(BASE, "b", 1), 0)

    def test_numbers_of_ticks(self):
        for ticks in (-1, -FAR, FAR + 1, 10 ** 30, *WRONG_KINDS):
            with self.subTest(ticks):
                for call in COUNTS:
                    self.assertRaises(InvalidTick, call, BASE, "a", ticks)

    def test_numbers_of_openings(self):
        for number in (0, -1, FAR + 1, 10 ** 30, *WRONG_KINDS):
            with self.subTest(number):
                self.assertRaises(InvalidCount, nth_opening, BASE, "a", number)
                self.assertRaises(InvalidCount, nth_opening, NEVER, "c", number)


if __name__ == "__main__":
    unittest.main()
