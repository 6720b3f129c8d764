"""Point 5: what happens in each tick, in its order, and which ticks are allowed."""

import unittest

from tests.support import BASE, FAR, WRONG_KINDS
from watervalves.errors import InvalidTick
from watervalves.machine import open_valves, trace, waiting


def watering(plan, many):
    """Return the names of the valves that water in the first ticks, joined."""
    return ["".join(open_valves(plan, tick)) for tick in range(many)]


class Requests(unittest.TestCase):
    def test_a_request_comes_in_each_round(self):
        plan = "round 5; open 1; valves a; start a 1 for 2;"
        self.assertEqual(watering(plan, 12), ["", "a", "a", "", "", "", "a", "a", "", "", "", "a"])

    def test_water_may_last_beyond_the_round(self):
        plan = "round 5; open 1; valves a; start a 3 for 4;"
        self.assertEqual(watering(plan, 10), ["", "", "", "a", "a", "a", "a", "", "a", "a"])

    def test_requests_come_in_the_order_of_the_canonical_text(self):
        plan = "round 9; open 1; valves b a; start a 0 for 1; start b 0 for 4; start a 0 for 2;"
        self.assertEqual(waiting(plan, 0), {"b": [], "a": [1, 2]})
        self.assertEqual(
            list(trace(plan, 0, 0)),
            [(0, "ask", "b"), (0, "ask", "a"), (0, "ask", "a"), (0, "open", "b")],
        )

    def test_a_third_request_is_lost(self):
        plan = "round 9; open 1; valves a; start a 0 for 3; start a 0 for 2; start a 0 for 1;"
        self.assertEqual(
            list(trace(plan, 0, 0)),
            [(0, "ask", "a"), (0, "ask", "a"), (0, "ask", "a"), (0, "lost", "a"), (0, "open", "a")],
        )
        self.assertEqual(waiting(plan, 0), {"a": [2]})
        self.assertEqual(watering(plan, 9), ["a"] * 5 + [""] * 4)

    def test_a_request_is_lost_before_a_valve_is_opened_in_the_same_tick(self):
        plan = "round 4; open 1; valves a; start a 0 for 9; start a 1 for 8; start a 2 for 7; start a 3 for 6;"
        self.assertEqual([waiting(plan, tick)["a"] for tick in range(4)], [[], [8], [8, 7], [8, 7]])
        self.assertEqual(
            list(trace(plan, 8, 9)),
            [(8, "ask", "a"), (8, "lost", "a"), (8, "close", "a"), (9, "ask", "a"), (9, "lost", "a"), (9, "open", "a")],
        )

    def test_the_request_for_which_a_valve_is_open_does_not_wait(self):
        plan = "round 9; open 1; valves a; start a 0 for 9; start a 1 for 5; start a 2 for 6;"
        self.assertEqual(waiting(plan, 0), {"a": []})
        self.assertEqual(waiting(plan, 2), {"a": [5, 6]})

    def test_requests_are_lost_for_their_own_valve_only(self):
        plan = "round 9; open 1; valves a b; start a 0 for 9;" + "start b 1 for 1;" * 3 + "start a 1 for 2;"
        self.assertEqual(waiting(plan, 1), {"a": [2], "b": [1, 1]})

    def test_the_oldest_request_is_taken_first(self):
        plan = "round 20; open 1; valves a; start a 0 for 3; start a 1 for 1; start a 2 for 2;"
        opened = [tick for tick, word, _ in trace(plan, 0, 19) if word == "open"]
        self.assertEqual(opened, [0, 3, 4])
        self.assertEqual([waiting(plan, tick)["a"] for tick in range(5)], [[], [1], [1, 2], [2], []])


class Pauses(unittest.TestCase):
    def test_open_valves_are_held(self):
        plan = "round 9; open 1; valves a; start a 0 for 3; pause 1 2;"
        self.assertEqual(watering(plan, 9), ["a", "", "", "a", "a", "", "", "", ""])
        self.assertEqual(
            list(trace(plan, 0, 8)), [(0, "ask", "a"), (0, "open", "a"), (4, "close", "a")]
        )

    def test_a_held_valve_still_counts_as_open(self):
        plan = "round 9; open 1; valves a b; start a 0 for 2; start b 1 for 1; pause 1 1;"
        self.assertEqual(watering(plan, 5), ["a", "", "a", "b", ""])

    def test_no_valve_is_opened(self):
        plan = "round 9; open 1; valves a; start a 2 for 1; pause 2 4;"
        self.assertEqual(watering(plan, 7), ["", "", "", "", "", "a", ""])
        self.assertEqual([waiting(plan, tick)["a"] for tick in range(1, 6)], [[], [1], [1], [1], []])

    def test_requests_come_and_are_lost(self):
        plan = "round 9; open 1; valves a;" + "start a 2 for 1; start a 3 for 2;" * 2 + "pause 2 3;"
        self.assertEqual(waiting(plan, 3), {"a": [1, 1]})
        self.assertEqual(
            list(trace(plan, 3, 3)),
            [(3, "ask", "a"), (3, "lost", "a"), (3, "ask", "a"), (3, "lost", "a")],
        )

    def test_a_round_that_is_one_pause(self):
        plan = "round 2; open 1; valves a; start a 1 for 1; pause 0 1;"
        self.assertEqual(watering(plan, 10), [""] * 10)
        self.assertEqual(waiting(plan, 9), {"a": [1, 1]})


class Openings(unittest.TestCase):
    def test_the_ranks_decide_who_is_opened(self):
        parts = "start a 0 for 1; start b 0 for 1; start c 0 for 1;"
        for rank, order in (("", "abc"), ("rank c;", "cab"), ("rank b c;", "bca"), ("rank c b a;", "cba")):
            with self.subTest(rank):
                plan = "round 9; open 1; valves a b c;" + rank + parts
                self.assertEqual("".join(watering(plan, 9)), order)

    def test_the_ranks_go_before_the_age_of_the_requests(self):
        plan = "round 9; open 1; valves a b c; rank c; start a 0 for 3; start b 1 for 1; start c 2 for 1;"
        self.assertEqual(watering(plan, 6), ["a", "a", "a", "c", "b", ""])

    def test_an_open_valve_is_not_closed_for_a_better_one(self):
        plan = "round 9; open 1; valves a b; start b 0 for 3; start a 1 for 1;"
        self.assertEqual(watering(plan, 5), ["b", "b", "b", "a", ""])

    def test_only_as_many_as_the_plan_allows(self):
        parts = "".join(f"start {name} 0 for 2;" for name in "abcd")
        for limit, expected in (
            (1, ["a", "a", "b", "b", "c", "c", "d", "d"]),
            (2, ["ab", "ab", "cd", "cd"]),
            (3, ["abc", "abc", "d", "d"]),
            (4, ["abcd", "abcd"]),
            (9, ["abcd", "abcd"]),
        ):
            with self.subTest(limit):
                plan = f"round 9; open {limit}; valves a b c d;" + parts
                self.assertEqual(watering(plan, 8), expected + [""] * (8 - len(expected)))

    def test_a_valve_is_opened_once_in_a_tick(self):
        plan = "round 9; open 2; valves a; start a 0 for 2; start a 0 for 1;"
        self.assertEqual(waiting(plan, 0), {"a": [1]})
        self.assertEqual(watering(plan, 4), ["a", "a", "a", ""])

    def test_a_valve_that_was_closed_can_be_opened_in_the_next_tick(self):
        plan = "round 1; open 1; valves a; start a 0 for 1;"
        self.assertEqual(
            list(trace(plan, 5, 6)),
            [(5, "ask", "a"), (5, "open", "a"), (5, "close", "a"), (6, "ask", "a"), (6, "open", "a"), (6, "close", "a")],
        )

    def test_a_place_is_free_from_the_next_tick_on(self):
        plan = "round 9; open 1; valves a b; start a 0 for 1; start b 0 for 1;"
        self.assertEqual(
            list(trace(plan, 0, 1)),
            [
                (0, "ask", "a"),
                (0, "ask", "b"),
                (0, "open", "a"),
                (0, "close", "a"),
                (1, "open", "b"),
                (1, "close", "b"),
            ],
        )

    def test_the_longest_water(self):
        plan = "round 60; open 1; valves a; start a 0 for 30;"
        self.assertEqual(watering(plan, 32), ["a"] * 30 + ["", ""])


class Ticks(unittest.TestCase):
    def test_limits(self):
        self.assertEqual(open_valves(BASE, 0), ["a"])
        self.assertEqual(waiting(BASE, 0), {"a": [], "b": []})
        # 10 ** 18 is 4 modulo 6, and the tick before it 3.
        self.assertEqual(open_valves(BASE, FAR), [])
        self.assertEqual(open_valves(BASE, FAR - 1), ["b"])
        self.assertEqual(waiting(BASE, FAR - 3), {"a": [], "b": [2]})
        self.assertEqual(waiting(BASE, FAR), {"a": [], "b": []})

    def test_ticks_outside(self):
        for call in (open_valves, waiting):
            for tick in (-1, -FAR, FAR + 1, 10 ** 30):
                with self.subTest(call=call.__name__, tick=tick):
                    self.assertRaises(InvalidTick, call, BASE, tick)

    def test_other_kinds_of_values(self):
        for call in (open_valves, waiting):
            for tick in WRONG_KINDS:
                with self.subTest(call=call.__name__, tick=tick):
                    self.assertRaises(InvalidTick, call, BASE, tick)


if __name__ == "__main__":
    unittest.main()
