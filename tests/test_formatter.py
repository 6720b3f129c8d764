"""Point 4: the canonical text and the list of the valves."""

import random
import unittest

from tests.support import Drawn
from watervalves.formatter import format_plan, valves


def lines_behind(plan, head="round 9; open 1; valves a b c;"):
    """Return the lines of the canonical text behind the valves."""
    return format_plan(head + plan).split("\n")[3:]


class Ranks(unittest.TestCase):
    def test_no_rank(self):
        self.assertEqual(lines_behind(""), [])

    def test_a_rank_of_some_valves(self):
        self.assertEqual(lines_behind("rank c;"), ["rank c a b;"])
        self.assertEqual(lines_behind("rank b;"), ["rank b a c;"])
        self.assertEqual(lines_behind("rank c b;"), ["rank c b a;"])

    def test_a_rank_of_all_valves(self):
        self.assertEqual(lines_behind("rank b c a;"), ["rank b c a;"])

    def test_a_rank_that_is_the_order_of_the_valves(self):
        for rank in ("rank a;", "rank a b;", "rank a b c;"):
            with self.subTest(rank):
                self.assertEqual(lines_behind(rank), [])

    def test_a_rank_stands_before_all_starts_and_pauses(self):
        self.assertEqual(
            lines_behind("pause 1 1; start a 0 for 1; rank b;"),
            ["rank b a c;", "start a 0 for 1;", "pause 1 1;"],
        )

    def test_the_order_behind_valves_need_not_be_that_of_the_alphabet(self):
        self.assertEqual(lines_behind("rank a;", "round 9; open 1; valves c b a;"), ["rank a c b;"])
        self.assertEqual(lines_behind("rank c b;", "round 9; open 1; valves c b a;"), [])


class Starts(unittest.TestCase):
    def test_by_ticks_as_numbers(self):
        head = "round 60; open 1; valves a;"
        self.assertEqual(
            lines_behind("start a 10 for 1; start a 9 for 2; start a 2 for 3;", head),
            ["start a 2 for 3;", "start a 9 for 2;", "start a 10 for 1;"],
        )

    def test_ticks_before_valves(self):
        self.assertEqual(
            lines_behind("start a 2 for 1; start c 1 for 1; start b 0 for 1;"),
            ["start b 0 for 1;", "start c 1 for 1;", "start a 2 for 1;"],
        )

    def test_by_valves_in_the_order_behind_valves(self):
        head = "round 9; open 1; valves c a b; rank b a c;"
        self.assertEqual(
            lines_behind("start a 1 for 1; start b 1 for 1; start c 1 for 1;", head),
            ["rank b a c;", "start c 1 for 1;", "start a 1 for 1;", "start b 1 for 1;"],
        )

    def test_then_as_in_the_plan(self):
        self.assertEqual(
            lines_behind("start b 1 for 9; start a 1 for 7; start b 1 for 2; start a 1 for 8; start b 1 for 5;"),
            [
                "start a 1 for 7;",
                "start a 1 for 8;",
                "start b 1 for 9;",
                "start b 1 for 2;",
                "start b 1 for 5;",
            ],
        )

    def test_equal_starts_all_stay(self):
        self.assertEqual(lines_behind("start a 1 for 7;" * 3), ["start a 1 for 7;"] * 3)


class Pauses(unittest.TestCase):
    def test_pauses_that_touch(self):
        self.assertEqual(lines_behind("pause 3 4; pause 5 6;"), ["pause 3 6;"])
        self.assertEqual(lines_behind("pause 5 6; pause 3 4;"), ["pause 3 6;"])

    def test_pauses_that_overlap(self):
        self.assertEqual(lines_behind("pause 1 4; pause 3 6;"), ["pause 1 6;"])
        self.assertEqual(lines_behind("pause 3 4; pause 1 8;"), ["pause 1 8;"])

    def test_pauses_that_repeat(self):
        self.assertEqual(lines_behind("pause 2 2; pause 2 2; pause 2 2;"), ["pause 2 2;"])

    def test_pauses_apart_in_ascending_order(self):
        self.assertEqual(
            lines_behind("pause 7 8; pause 0 1; pause 3 5;"), ["pause 0 1;", "pause 3 5;", "pause 7 8;"]
        )

    def test_pauses_are_not_joined_beyond_the_round(self):
        self.assertEqual(lines_behind("pause 8 8; pause 0 0;"), ["pause 0 0;", "pause 8 8;"])

    def test_the_whole_round(self):
        self.assertEqual(lines_behind("pause 4 8; pause 0 3;"), ["pause 0 8;"])


class Texts(unittest.TestCase):
    def test_the_whole_text(self):
        plan = "round 12;open 3;valves c a;pause 11 11;start a 5 for 30;rank a;start c 5 for 1;"
        self.assertEqual(
            format_plan(plan),
            "round 12;\nopen 3;\nvalves c a;\nrank a c;\nstart c 5 for 1;\nstart a 5 for 30;\npause 11 11;",
        )

    def test_the_canonical_text_is_its_own(self):
        source = random.Random(41)
        for _ in range(200):
            plan = Drawn(source)
            text = format_plan(plan.text)
            with self.subTest(plan.text):
                self.assertEqual(format_plan(text), text)
                self.assertEqual(text, self.expected(plan))

    def expected(self, plan):
        """Return the canonical text by the words of point 4."""
        rows = [f"round {plan.period};", f"open {plan.limit};", f"valves {' '.join(plan.names)};"]
        if plan.rank != plan.names:
            rows.append(f"rank {' '.join(plan.rank)};")
        for tick in range(plan.period):
            for name in plan.names:
                for other, when, water in plan.starts:
                    if (other, when) == (name, tick):
                        rows.append(f"start {name} {tick} for {water};")
        for first in plan.paused:
            if first - 1 not in plan.paused:
                last = first
                while last + 1 in plan.paused:
                    last += 1
                rows.append(f"pause {first} {last};")
        return "\n".join(rows)


class Valves(unittest.TestCase):
    def test_the_order_of_the_plan(self):
        self.assertEqual(valves("round 9; open 1; valves c a b; rank b;"), ["c", "a", "b"])

    def test_one_and_eight_valves(self):
        self.assertEqual(valves("round 9; open 1; valves x;"), ["x"])
        self.assertEqual(valves("round 9; open 1; valves h g f e d c b a;"), list("hgfedcba"))

    def test_the_list_is_new(self):
        plan = "round 9; open 1; valves c a b;"
        found = valves(plan)
        self.assertIs(type(found), list)
        found.append("d")
        found[0] = "z"
        self.assertEqual(valves(plan), ["c", "a", "b"])
        self.assertIsNot(valves(plan), valves(plan))

    def test_no_plan_is_too_long_for_these(self):
        plan = "round 1; open 3; valves a b c; start a 0 for 29; start b 0 for 28; start c 0 for 27;"
        self.assertEqual(valves(plan), ["a", "b", "c"])
        self.assertEqual(format_plan(plan).count("\n"), 5)


if __name__ == "__main__":
    unittest.main()
