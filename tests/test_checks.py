"""Point 3: CheckFault, its reasons, its places and their order."""

import unittest

from tests.support import CALLS, check_fault
from watervalves.errors import DifferentValves, TooManyStarts, UnknownValve
from watervalves.formatter import format_plan

HEAD = "round 9; open 1; valves a b;\n"
EIGHT = "a b c d e f g h"


class CheckTest(unittest.TestCase):
    def assert_fault(self, plan, reason, line, column):
        """Every function that takes a plan raises the same CheckFault."""
        for name, call in CALLS.items():
            with self.subTest(function=name, plan=plan):
                self.assertEqual(check_fault(call, plan), (reason, line, column))

    def assert_sound(self, plan):
        for name, call in CALLS.items():
            with self.subTest(function=name, plan=plan):
                try:
                    call(plan)
                except (UnknownValve, TooManyStarts, DifferentValves):
                    pass


class Head(CheckTest):
    def test_round(self):
        for number in (0, 61, 99):
            self.assert_fault(f"round {number}; open 1; valves a;", "round", 0, 6)

    def test_round_at_its_limits(self):
        for number in (1, 60):
            self.assert_sound(f"round {number}; open 1; valves a;")

    def test_open(self):
        for number in (0, 10, 99):
            self.assert_fault(f"round 9;\nopen {number}; valves a;", "open", 1, 5)

    def test_open_at_its_limits(self):
        for number in (1, 9):
            self.assert_sound(f"round 9; open {number}; valves a;")

    def test_duplicate(self):
        self.assert_fault("round 9; open 1;\nvalves a a;", "duplicate", 1, 9)
        self.assert_fault("round 9; open 1;\nvalves a b c b a;", "duplicate", 1, 13)

    def test_eight_valves(self):
        self.assert_sound(f"round 9; open 1; valves {EIGHT};")

    def test_ninth_valve(self):
        self.assert_fault(f"round 9; open 1;\nvalves {EIGHT} i;", "valves", 1, 23)
        self.assert_fault(f"round 9; open 1;\nvalves {EIGHT} i j i;", "valves", 1, 23)

    def test_a_valve_again_is_no_ninth_one(self):
        self.assert_fault(f"round 9; open 1;\nvalves {EIGHT} c;", "duplicate", 1, 23)
        self.assert_fault("round 9; open 1;\nvalves a a b c d e f g h;", "duplicate", 1, 9)


class Statements(CheckTest):
    def test_unknown_in_a_start(self):
        self.assert_fault(HEAD + "start c 0 for 2;", "unknown", 1, 6)

    def test_unknown_in_a_rank(self):
        self.assert_fault(HEAD + "rank a c;", "unknown", 1, 7)

    def test_names_are_compared_whole(self):
        self.assert_fault("round 9; open 1; valves ab;\nstart a 0 for 2;", "unknown", 1, 6)

    def test_tick(self):
        for tick in (9, 10, 99):
            self.assert_fault(HEAD + f"start a {tick} for 2;", "tick", 1, 8)

    def test_tick_at_its_limits(self):
        for tick in (0, 8):
            self.assert_sound(HEAD + f"start a {tick} for 2;")
        self.assert_sound("round 1; open 1; valves a; start a 0 for 2;")
        self.assert_fault("round 1; open 1; valves a;\nstart a 1 for 2;", "tick", 1, 8)

    def test_length(self):
        for water in (0, 31, 99):
            self.assert_fault(HEAD + f"start a 0 for {water};", "length", 1, 14)

    def test_length_at_its_limits(self):
        for water in (1, 30):
            self.assert_sound(HEAD + f"start a 0 for {water};")

    def test_starts(self):
        twenty = "start a 0 for 2;\n" * 20
        self.assert_sound(HEAD + twenty)
        self.assert_fault(HEAD + twenty + "pause 1 1; start b 1 for 1;", "starts", 21, 11)

    def test_pause(self):
        self.assert_fault(HEAD + "pause 3 9;", "pause", 1, 8)
        self.assert_fault(HEAD + "pause 3 99;", "pause", 1, 8)
        self.assert_fault(HEAD + "pause 4 3;", "pause", 1, 6)
        self.assert_fault(HEAD + "pause 99 3;", "pause", 1, 6)

    def test_pause_with_both_numbers_too_great(self):
        self.assert_fault(HEAD + "pause 12 10;", "pause", 1, 9)
        self.assert_fault(HEAD + "pause 9 9;", "pause", 1, 8)

    def test_pause_at_its_limits(self):
        for first, last in ((0, 0), (0, 8), (8, 8), (3, 3)):
            self.assert_sound(HEAD + f"pause {first} {last};")

    def test_many_pauses(self):
        self.assert_sound(HEAD + "pause 1 2;" * 100)

    def test_rank(self):
        self.assert_fault(HEAD + "rank a b a;", "rank", 1, 9)
        self.assert_fault(HEAD + "rank b b;", "rank", 1, 7)

    def test_twice(self):
        self.assert_fault(HEAD + "rank a;\nrank b;", "twice", 2, 0)
        self.assert_fault(HEAD + "rank a b; pause 1 1; rank a b;", "twice", 1, 21)

    def test_statements_in_any_order(self):
        self.assert_sound(HEAD + "pause 1 1; start b 1 for 1; rank b; start a 1 for 1; pause 0 0;")


class SeveralErrors(CheckTest):
    def test_the_first_error_of_the_text_counts(self):
        parts = ["start c 0 for 2;", "start a 9 for 2;", "start a 0 for 31;", "pause 0 9;", "rank a a;"]
        faults = [("unknown", 6), ("tick", 8), ("length", 14), ("pause", 8), ("rank", 7)]
        for index, (reason, column) in enumerate(faults):
            turned = parts[index:] + parts[:index]
            self.assert_fault(HEAD + " ".join(turned), reason, 1, column)

    def test_errors_of_the_head_in_the_order_of_the_text(self):
        self.assert_fault("round 0; open 0; valves a a; start b 1 for 0;", "round", 0, 6)
        self.assert_fault("round 1; open 0; valves a a; start b 1 for 0;", "open", 0, 14)
        self.assert_fault("round 1; open 1; valves a a; start b 1 for 0;", "duplicate", 0, 26)
        self.assert_fault("round 1; open 1; valves a; start b 1 for 0;", "unknown", 0, 33)

    def test_errors_within_a_start(self):
        self.assert_fault(HEAD + "start c 9 for 31;", "unknown", 1, 6)
        self.assert_fault(HEAD + "start a 9 for 31;", "tick", 1, 8)

    def test_a_later_error_of_an_earlier_reason(self):
        self.assert_fault(HEAD + "rank b b;\nstart c 9 for 0;", "rank", 1, 7)
        self.assert_fault(HEAD + "pause 5 4;\nstart c 9 for 0;", "pause", 1, 6)
        self.assert_fault(HEAD + "start a 0 for 31;\nstart a 9 for 1;", "length", 1, 14)

    def test_starts_goes_before_what_stands_behind_its_keyword(self):
        self.assert_fault(HEAD + "start a 0 for 2;" * 20 + "\nstart c 9 for 0;", "starts", 2, 0)

    def test_an_error_before_the_twenty_first_start(self):
        self.assert_fault(HEAD + "start a 0 for 2;" * 19 + "\nstart c 0 for 2; start a 0 for 2;", "unknown", 2, 6)

    def test_twice_goes_before_what_stands_behind_its_keyword(self):
        self.assert_fault(HEAD + "rank a;\nrank c c;", "twice", 2, 0)

    def test_an_error_in_the_first_rank_goes_before_twice(self):
        self.assert_fault(HEAD + "rank a a; rank b;", "rank", 1, 7)

    def test_two_errors_at_one_place_by_the_order_of_the_reasons(self):
        # Every name behind the first "c" is unknown and occurs again: unknown comes first.
        self.assert_fault(HEAD + "rank c c;", "unknown", 1, 5)
        self.assert_fault(HEAD + "rank a c c a;", "unknown", 1, 7)

    def test_a_ninth_valve_that_is_named_later(self):
        self.assert_fault(f"round 9; open 1;\nvalves {EIGHT} i; start i 0 for 2;", "valves", 1, 23)

    def test_nothing_is_raised_at_all_limits_at_once(self):
        starts = "".join(f"start {name} 59 for 30; start {name} 0 for 1;" for name in "abcdefgh")
        plan = f"round 60; open 9; valves {EIGHT}; rank h g f e d c b a; {starts} pause 0 59;"
        self.assertTrue(format_plan(plan).startswith("round 60;\nopen 9;\n"))


if __name__ == "__main__":
    unittest.main()
