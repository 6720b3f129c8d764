"""Point 6: the generator `trace`: its events, its range and its errors."""

import inspect
import random
import unittest

from tests.support import BASE, Drawn, FAR, LONG
from watervalves.errors import CheckFault, InvalidTick, SyntaxFault, TooLong
from watervalves.machine import find_cycle, trace

# A request and an opening in each tick.
BUSY = "round 1; open 1; valves a; start a 0 for 1;"


class Events(unittest.TestCase):
    def test_all_words_in_their_order(self):
        plan = (
            "round 9; open 3; valves b a c; rank c a; start a 0 for 1; start c 0 for 1;"
            "start b 0 for 1; start b 0 for 1; start b 0 for 2; start c 0 for 2;"
        )
        self.assertEqual(
            list(trace(plan, 0, 1)),
            [
                (0, "ask", "b"),
                (0, "ask", "b"),
                (0, "ask", "b"),
                (0, "lost", "b"),
                (0, "ask", "a"),
                (0, "ask", "c"),
                (0, "ask", "c"),
                (0, "open", "c"),
                (0, "open", "a"),
                (0, "open", "b"),
                (0, "close", "b"),
                (0, "close", "a"),
                (0, "close", "c"),
                (1, "open", "c"),
                (1, "open", "b"),
                (1, "close", "b"),
            ],
        )

    def test_each_lost_request_directly_behind_its_own(self):
        plan = "round 9; open 1; valves a b; start a 0 for 1;" + "start a 0 for 1;" * 3 + "start b 0 for 1;" * 3
        self.assertEqual(
            [word + name for _, word, name in trace(plan, 0, 0)],
            ["aska", "aska", "aska", "losta", "aska", "losta", "askb", "askb", "askb", "lostb", "opena", "closea"],
        )

    def test_ticks_without_events_yield_nothing(self):
        self.assertEqual(list(trace(BASE, 4, 5)), [])

    def test_the_numbers_of_late_ticks(self):
        self.assertEqual(
            list(trace(BUSY, FAR, FAR)), [(FAR, "ask", "a"), (FAR, "open", "a"), (FAR, "close", "a")]
        )

    def test_a_range_is_its_ticks_one_by_one(self):
        source = random.Random(45)
        for _ in range(30):
            plan = Drawn(source).text
            first = source.choice((0, 3, 50, 10 ** 6, FAR - 30))
            with self.subTest(plan):
                single = [event for tick in range(first, first + 31) for event in trace(plan, tick, tick)]
                self.assertEqual(list(trace(plan, first, first + 30)), single)

    def test_where_the_cycle_begins_and_ends(self):
        plan = "round 2; open 1; valves a; start a 0 for 3;"
        begin, length = find_cycle(plan)
        opened = [tick for tick, word, _ in trace(plan, 0, begin + 4 * length) if word == "open"]
        self.assertEqual(opened, list(range(0, begin + 4 * length + 1, 3)))


class Ranges(unittest.TestCase):
    def test_the_last_tick_may_be_one_before_the_first(self):
        for first in (0, 1, 7, FAR):
            with self.subTest(first):
                self.assertEqual(list(trace(BUSY, first, first - 1)), [])

    def test_the_last_tick_may_not_be_earlier(self):
        for first in (0, 1, 7, 1000, FAR):
            with self.subTest(first):
                self.assertRaises(InvalidTick, list, trace(BUSY, first, first - 2))
        self.assertRaises(InvalidTick, list, trace(BUSY, 7, 0))

    def test_the_last_tick_may_be_499_after_the_first(self):
        for first in (0, 7, FAR - 499):
            with self.subTest(first):
                events = list(trace(BUSY, first, first + 499))
                self.assertEqual(len(events), 1500)
                self.assertEqual((events[0][0], events[-1][0]), (first, first + 499))

    def test_the_last_tick_may_not_be_later(self):
        for first in (0, 7, FAR - 500):
            with self.subTest(first):
                self.assertRaises(InvalidTick, list, trace(BUSY, first, first + 500))
        self.assertRaises(InvalidTick, list, trace(BUSY, 0, FAR))

    def test_the_last_tick_is_at_most_the_last_of_all(self):
        self.assertEqual(len(list(trace(BUSY, FAR, FAR))), 3)
        self.assertEqual(len(list(trace(BUSY, FAR - 1, FAR))), 6)
        self.assertRaises(InvalidTick, list, trace(BUSY, FAR, FAR + 1))
        self.assertRaises(InvalidTick, list, trace(BUSY, FAR - 1, FAR + 1))

    def test_the_first_tick(self):
        for first in (-1, -500, FAR + 1):
            with self.subTest(first):
                self.assertRaises(InvalidTick, list, trace(BUSY, first, first))
        self.assertRaises(InvalidTick, list, trace(BUSY, -1, 0))
        self.assertRaises(InvalidTick, list, trace(BUSY, FAR + 1, FAR))

    def test_other_kinds_of_values(self):
        for wrong in (True, False, None, "0", "", (0,), [0], [], ()):
            with self.subTest(wrong):
                self.assertRaises(InvalidTick, list, trace(BUSY, wrong, 0))
                self.assertRaises(InvalidTick, list, trace(BUSY, 0, wrong))
                self.assertRaises(InvalidTick, list, trace(BUSY, wrong, wrong))


class Errors(unittest.TestCase):
    def test_a_generator(self):
        self.assertTrue(inspect.isgenerator(trace(BASE, 0, 1)))
        self.assertTrue(inspect.isgeneratorfunction(trace))

    def test_errors_come_with_the_first_tuple(self):
        for wrong, error in (
            (("", 0, 0), SyntaxFault),
            (("round 0; open 1; valves a;", 0, 0), CheckFault),
            ((BASE, -1, 0), InvalidTick),
            ((BASE, 0, 500), InvalidTick),
            ((BASE, 5, True), InvalidTick),
            ((LONG, 0, 0), TooLong),
        ):
            with self.subTest(wrong):
                events = trace(*wrong)
                self.assertRaises(error, next, events)

    def test_errors_come_for_an_empty_range_too(self):
        self.assertRaises(SyntaxFault, next, trace("", 0, -1))
        self.assertRaises(CheckFault, next, trace("round 0; open 1; valves a;", 0, -1))
        self.assertRaises(TooLong, next, trace(LONG, 0, -1))

    def test_the_order_of_the_errors(self):
        self.assertRaises(SyntaxFault, next, trace("round 0", True, -9))
        self.assertRaises(CheckFault, next, trace("round 0; open 1; valves a;", True, -9))
        self.assertRaises(InvalidTick, next, trace(LONG, 0, -2))
        self.assertRaises(InvalidTick, next, trace(LONG, FAR + 1, FAR + 1))

    def test_two_generators_do_not_disturb_each_other(self):
        one, other = trace(BASE, 0, 5), trace(BASE, 0, 5)
        pairs = list(zip(one, other))
        self.assertEqual([pair[0] for pair in pairs], [pair[1] for pair in pairs])
        self.assertEqual([pair[0] for pair in pairs], list(trace(BASE, 0, 5)))


if __name__ == "__main__":
    unittest.main()
