"""Point 12: plans as lists of bytes."""

import random
import unittest

from tests.support import BASE, LONG, Drawn, outcome
from watervalves.encoding import decode, encode
from watervalves.errors import CheckFault, InvalidCode, SyntaxFault
from watervalves.formatter import format_plan

KEYWORDS = ("round", "open", "valves", "start", "for", "pause", "rank")
LETTERS = "abcdefghijklmnopqrstuvwxyz"
# What is no byte wherever it stands.
NO_BYTES = (-1, 256, 10 ** 18, -(10 ** 18), True, False, None, "", "0", "a", (), (0,), [], [0])
FULL = (
    "round 60; open 9; valves b a; rank a;"
    "start a 59 for 30; start b 0 for 1; start a 0 for 3; start a 0 for 2; pause 0 0; pause 59 59; pause 2 4;"
)
# Its bytes without the checksum.
FULL_BODY = [87, 60, 9, 2, 1, 1, 1, 0, 1, 0]
FULL_BODY += [4, 0, 0, 1, 0, 1, 3, 0, 1, 2, 59, 1, 30]
FULL_BODY += [3, 0, 0, 2, 4, 59, 59]


def sealed(*body):
    """Return these bytes with their checksum."""
    return [*body, sum(body) % 256]


def place_of(code):
    """Return the place of the InvalidCode that decode raises, None if it raises none."""
    try:
        decode(code)
    except InvalidCode as fault:
        return fault.place
    return None


class WrongName(Exception):
    """A name that no valve can have, at the place of its length."""


def allowed_bytes(before):
    """Yield, for each place, the bytes that may stand there; before has those that stand before it."""
    yield [87]
    period = yield range(1, 61)
    yield range(1, 10)
    many = yield range(1, 9)
    names = set()
    for _ in range(many):
        place = len(before)
        length = yield range(1, 9)
        name = ""
        for _ in range(length):
            name += LETTERS[(yield range(26))]
        if name in names or name in KEYWORDS:
            raise WrongName(place)
        names.add(name)
    left = set(range(many))
    while left:
        left.discard((yield set(left)))
    starts = yield range(21)
    last = (0, 0)
    for _ in range(starts):
        tick = yield range(last[0], period)
        valve = yield range(last[1] if tick == last[0] else 0, many)
        yield range(1, 31)
        last = (tick, valve)
    runs = yield range(period + 1)
    free = 0
    for _ in range(runs):
        first = yield range(free, period)
        free = (yield range(first, period)) + 2
    yield [sum(before) % 256]


def expected_place(code):
    """Return the place of the first fault of a list of bytes, None if there is none."""
    before = []
    source = allowed_bytes(before)
    allowed = next(source)
    for place, byte in enumerate(code):
        if allowed is None or type(byte) is not int or byte not in allowed:
            return place
        before.append(byte)
        try:
            allowed = source.send(byte)
        except WrongName as fault:
            return fault.args[0]
        except StopIteration:
            allowed = None
    return None if allowed is None else len(code)


class Encode(unittest.TestCase):
    def test_a_plan_without_starts_and_pauses(self):
        self.assertEqual(encode("round 60; open 9; valves z;"), sealed(87, 60, 9, 1, 1, 25, 0, 0, 0))
        self.assertEqual(encode("round 1; open 1; valves a;"), sealed(87, 1, 1, 1, 1, 0, 0, 0, 0))

    def test_all_parts(self):
        self.assertEqual(encode(FULL), sealed(*FULL_BODY))
        self.assertEqual(encode(BASE), sealed(87, 6, 1, 2, 1, 0, 1, 1, 0, 1, 2, 0, 0, 2, 1, 1, 2, 0))

    def test_the_longest_names(self):
        plan = "round 2; open 3; valves zyxwvuts abcdefgh mmmmmmmm;"
        body = [87, 2, 3, 3, 8, 25, 24, 23, 22, 21, 20, 19, 18, 8, 0, 1, 2, 3, 4, 5, 6, 7, 8, *[12] * 8]
        self.assertEqual(encode(plan), sealed(*body, 0, 1, 2, 0, 0))

    def test_the_order_of_the_ranks(self):
        head = [87, 5, 1, 3, 1, 2, 1, 0, 1, 1]
        for rank, numbers in (("", [0, 1, 2]), ("rank b;", [2, 0, 1]), ("rank b a;", [2, 1, 0]), ("rank a c;", [1, 0, 2])):
            with self.subTest(rank):
                self.assertEqual(encode("round 5; open 1; valves c a b;" + rank), sealed(*head, *numbers, 0, 0))

    def test_starts_with_equal_ticks_and_valves(self):
        starts = "start b 1 for 9; start a 1 for 8; start b 1 for 7; start b 0 for 6; start a 1 for 8;"
        head = [87, 2, 1, 2, 1, 0, 1, 1, 0, 1]
        expected = [5, 0, 1, 6, 1, 0, 8, 1, 0, 8, 1, 1, 9, 1, 1, 7]
        self.assertEqual(encode("round 2; open 1; valves a b;" + starts), sealed(*head, *expected, 0))

    def test_the_most_starts(self):
        plan = "round 1; open 1; valves a;" + "start a 0 for 30;" * 20
        self.assertEqual(encode(plan), sealed(87, 1, 1, 1, 1, 0, 0, 20, *[0, 0, 30] * 20, 0))

    def test_the_longest_runs_of_paused_ticks(self):
        head = [87, 6, 1, 1, 1, 0, 0, 0]
        for pauses, runs in (
            ("pause 0 0;", [1, 0, 0]),
            ("pause 5 5;", [1, 5, 5]),
            ("pause 0 5;", [1, 0, 5]),
            ("pause 5 5; pause 0 0;", [2, 0, 0, 5, 5]),
            ("pause 3 4; pause 1 2;", [1, 1, 4]),
            ("pause 1 3; pause 2 4;", [1, 1, 4]),
            ("pause 0 0; pause 4 4; pause 2 2;", [3, 0, 0, 2, 2, 4, 4]),
        ):
            with self.subTest(pauses):
                self.assertEqual(encode("round 6; open 1; valves a;" + pauses), sealed(*head, *runs))

    def test_the_checksum(self):
        # The sums of the bytes before it are 255, 256 and 257.
        for water, total, checksum in ((18, 255, 255), (19, 256, 0), (20, 257, 1)):
            code = encode(f"round 60; open 9; valves z; start z 0 for {water}; pause 26 26;")
            self.assertEqual((sum(code[:-1]), code[-1]), (total, checksum))

    def test_the_list_is_new(self):
        code = encode(BASE)
        self.assertIs(type(code), list)
        self.assertEqual({type(byte) for byte in code}, {int})
        code.append(0)
        self.assertEqual(encode(BASE) + [0], code)

    def test_a_plan_that_does_not_repeat_early(self):
        self.assertEqual(decode(encode(LONG)), format_plan(LONG))

    def test_errors_of_plans(self):
        for wrong in ("", None, 0, True, [], (), encode(BASE)):
            self.assertRaises(SyntaxFault, encode, wrong)
        self.assertRaises(SyntaxFault, encode, "round 0; open 1; valves a")
        self.assertRaises(CheckFault, encode, "round 0; open 1; valves a;")


class Decode(unittest.TestCase):
    def test_all_parts(self):
        self.assertEqual(
            decode(sealed(*FULL_BODY)),
            "round 60;\nopen 9;\nvalves b a;\nrank a b;\nstart b 0 for 1;\nstart a 0 for 3;\nstart a 0 for 2;\n"
            "start a 59 for 30;\npause 0 0;\npause 2 4;\npause 59 59;",
        )

    def test_the_code_is_not_changed(self):
        code = encode(FULL)
        decode(code)
        self.assertEqual(code, encode(FULL))
        self.assertEqual(decode(code), decode(code))

    def test_the_largest_plan(self):
        names = [letter * 8 for letter in "abcdefgh"]
        plan = f"round 60; open 9; valves {' '.join(names)}; rank {' '.join(reversed(names))};"
        plan += "start hhhhhhhh 59 for 30;" * 20 + "".join(f"pause {tick} {tick};" for tick in range(0, 60, 2))
        self.assertEqual(decode(encode(plan)), format_plan(plan))

    def test_what_is_no_list(self):
        for wrong in (None, 0, 87, True, False, "", "W", (), tuple(encode(BASE)), ([],)):
            with self.subTest(wrong):
                self.assertEqual(place_of(wrong), 0)

    def test_an_empty_list(self):
        self.assertEqual(place_of([]), 0)

    def test_a_code_that_is_cut(self):
        for plan in (BASE, FULL, "round 1; open 1; valves a;"):
            code = encode(plan)
            for place in range(len(code)):
                with self.subTest(plan=plan, place=place):
                    self.assertEqual(place_of(code[:place]), place)

    def test_a_code_that_is_extended(self):
        for plan in (BASE, FULL, "round 1; open 1; valves a;"):
            code = encode(plan)
            for more in (0, code[-1], 255, *NO_BYTES):
                self.assertEqual(place_of(code + [more]), len(code))
                self.assertEqual(place_of(code + [more, 0]), len(code))

    def test_no_bytes(self):
        for plan in (BASE, FULL, "round 1; open 1; valves a;"):
            code = encode(plan)
            for place in range(len(code)):
                for wrong in NO_BYTES:
                    changed = code[:place] + [wrong] + code[place + 1 :]
                    with self.subTest(plan=plan, place=place, wrong=wrong):
                        self.assertEqual(place_of(changed), place)

    def test_the_first_fault_counts(self):
        self.assertEqual(place_of([None, None]), 0)
        self.assertEqual(place_of([87, 1, 0, None]), 2)
        self.assertEqual(place_of([86]), 0)
        self.assertEqual(place_of([87, 60, 9, 1, 1, 0, 0, 0, 0, 0, 0, 0]), 9)

    def test_the_checksum(self):
        body = [87, 2, 1, 1, 1, 0, 0, 1, 0, 0, 1, 0]
        for byte in range(256):
            self.assertEqual(place_of(body + [byte]), None if byte == 94 else 12)
            self.assertEqual(place_of(body + [byte, 0]), 13 if byte == 94 else 12)

    def test_a_changed_byte_needs_another_checksum(self):
        code = encode(FULL)
        changed = code[:2] + [8] + code[3:]
        self.assertEqual(place_of(changed), len(code) - 1)
        self.assertIsNone(place_of(sealed(*changed[:-1])))

    def assert_bytes(self, before, allowed, behind):
        """Check which bytes may stand between two parts of a code, apart from the checksum."""
        for byte in range(256):
            with self.subTest(before=before, byte=byte):
                expected = None if byte in allowed else len(before)
                self.assertEqual(place_of(sealed(*before, byte, *behind)), expected)

    def test_the_numbers_of_the_head(self):
        self.assert_bytes([], [87], [9, 1, 1, 1, 0, 0, 0, 0])
        self.assert_bytes([87], range(1, 61), [1, 1, 1, 0, 0, 0, 0])
        self.assert_bytes([87, 9], range(1, 10), [1, 1, 0, 0, 0, 0])

    def test_the_number_of_valves(self):
        names = [part for letter in range(8) for part in (1, letter)]
        for many in range(1, 9):
            self.assertIsNone(place_of(sealed(87, 9, 1, many, *names[: 2 * many], *range(many), 0, 0)))
        for many in (0, 9, 10, 255):
            self.assertEqual(place_of(sealed(87, 9, 1, many, *names, 1, 8, *range(9), 0, 0)), 3)

    def test_the_length_of_a_name(self):
        for length in range(1, 9):
            self.assertIsNone(place_of(sealed(87, 9, 1, 1, length, *[0] * length, 0, 0, 0)))
        for length in (0, 9, 255):
            self.assertEqual(place_of(sealed(87, 9, 1, 1, length, *[0] * length, 0, 0, 0)), 4)

    def test_the_letters_of_a_name(self):
        self.assert_bytes([87, 9, 1, 1, 3, 0], range(26), [0, 0, 0, 0])

    def test_names_that_are_keywords(self):
        for word in KEYWORDS:
            letters = [LETTERS.index(letter) for letter in word]
            with self.subTest(word):
                self.assertEqual(place_of(sealed(87, 9, 1, 1, len(word), *letters, 0, 0, 0)), 4)
                self.assertEqual(place_of(sealed(87, 9, 1, 2, 1, 0, len(word), *letters, 0, 1, 0, 0)), 6)
                # Noticed behind the name, and before what follows.
                self.assertEqual(place_of([87, 9, 1, 1, len(word), *letters]), 4)
                self.assertEqual(place_of([87, 9, 1, 1, len(word), *letters, None]), 4)
                self.assertEqual(place_of([87, 9, 1, 1, len(word), *letters[:-1]]), 4 + len(word))
                self.assertEqual(place_of([87, 9, 1, 1, len(word), *letters[:-1], 26]), 4 + len(word))
                self.assertEqual(place_of(sealed(87, 9, 1, 1, len(word) + 1, *letters, 0, 0, 0, 0)), None)

    def test_names_of_earlier_valves(self):
        self.assertEqual(place_of(sealed(87, 9, 1, 2, 1, 0, 1, 0, 0, 1, 0, 0)), 6)
        self.assertEqual(place_of(sealed(87, 9, 1, 3, 2, 0, 1, 1, 0, 2, 0, 1, 0, 1, 2, 0, 0)), 9)
        self.assertEqual(place_of([87, 9, 1, 2, 2, 0, 1, 2, 0, 26]), 9)
        self.assertEqual(place_of([87, 9, 1, 2, 2, 0, 1, 2, 0]), 9)
        self.assertEqual(place_of([87, 9, 1, 2, 2, 0, 1, 2, 0, 1]), 7)

    def test_the_ranks(self):
        head = [87, 9, 1, 3, 1, 0, 1, 1, 1, 2]
        self.assert_bytes([*head, 0, 1], [2], [0, 0])
        self.assert_bytes([*head, 2, 0], [1], [0, 0])
        for rank in ([0, 0, 2], [2, 0, 2], [0, 1, 1], [1, 1, 0], [3, 0, 1], [0, 3, 1], [0, 1, 3]):
            faults = [place for place, valve in enumerate(rank) if valve > 2 or valve in rank[:place]]
            with self.subTest(rank):
                self.assertEqual(place_of(sealed(*head, *rank, 0, 0)), len(head) + faults[0])

    def test_the_number_of_starts(self):
        head = [87, 9, 1, 1, 1, 0, 0]
        for many in range(21):
            self.assertIsNone(place_of(sealed(*head, many, *[3, 0, 1] * many, 0)))
        for many in (21, 22, 255):
            self.assertEqual(place_of(sealed(*head, many, *[3, 0, 1] * many, 0)), 7)
        self.assertEqual(place_of(sealed(*head, 2, 3, 0, 1, 0)), 11)

    def test_the_parts_of_a_start(self):
        head = [87, 9, 1, 3, 1, 0, 1, 1, 1, 2, 0, 1, 2]
        self.assert_bytes([*head, 1], range(9), [0, 1, 0])
        self.assert_bytes([*head, 1, 8], range(3), [1, 0])
        self.assert_bytes([*head, 1, 8, 2], range(1, 31), [0])
        self.assert_bytes([*head, 2, 4, 1, 1], range(4, 9), [2, 1, 0])
        self.assert_bytes([*head, 2, 4, 1, 1, 4], range(1, 3), [1, 0])
        self.assert_bytes([*head, 2, 4, 1, 1, 5], range(3), [1, 0])
        self.assert_bytes([*head, 2, 4, 1, 9, 4, 1], range(1, 31), [0])

    def test_the_valve_of_an_equal_tick_is_not_less(self):
        head = [87, 9, 1, 3, 1, 0, 1, 1, 1, 2, 0, 1, 2]
        self.assertEqual(place_of(sealed(*head, 2, 4, 1, 1, 4, 0, 1, 0)), len(head) + 5)
        self.assertIsNone(place_of(sealed(*head, 2, 4, 1, 1, 5, 0, 1, 0)))
        self.assertEqual(place_of(sealed(*head, 3, 4, 2, 1, 5, 0, 1, 4, 2, 1, 0)), len(head) + 7)

    def test_the_number_of_runs(self):
        for period in (1, 2, 5, 60):
            head = [87, period, 1, 1, 1, 0, 0, 0]
            for many in range(256):
                code = [*head, many]
                with self.subTest(period=period, many=many):
                    if many > period:
                        self.assertEqual(place_of(code), 8)
                    elif many > 0:
                        self.assertEqual(place_of(code), 9)

    def test_more_runs_than_can_stand_in_the_round(self):
        # In a round of five ticks there are three runs at the most; the fourth has no first tick.
        head = [87, 5, 1, 1, 1, 0, 0, 0]
        self.assertIsNone(place_of(sealed(*head, 3, 0, 0, 2, 2, 4, 4)))
        for many in (4, 5):
            self.assertEqual(place_of(sealed(*head, many, 0, 0, 2, 2, 4, 4, 6, 6)), 15)
            self.assertEqual(place_of([*head, many, 0, 0, 2, 2, 4, 4]), 15)
        self.assertEqual(place_of(sealed(*head, 6, 0, 0, 2, 2, 4, 4, 6, 6)), 8)

    def test_the_ticks_of_runs(self):
        head = [87, 9, 1, 1, 1, 0, 0, 0]
        self.assert_bytes([*head, 1], range(9), [8])
        self.assert_bytes([*head, 1, 0], range(9), [])
        self.assert_bytes([*head, 1, 4], range(4, 9), [])
        self.assert_bytes([*head, 1, 8], [8], [])
        self.assert_bytes([*head, 2, 1, 3], range(5, 9), [8])
        self.assert_bytes([*head, 2, 1, 3, 5], range(5, 9), [])

    def assert_cleanly_refused_or_read(self, code):
        expected = expected_place(code)
        self.assertEqual(place_of(code), expected, code)
        if expected is None:
            self.assertEqual(encode(decode(code)), code)

    def test_each_byte_at_each_place(self):
        for plan in (FULL, BASE, "round 3; open 1; valves fop opem a; start a 1 for 1; pause 0 0; pause 2 2;"):
            code = encode(plan)
            for place in range(len(code)):
                for byte in range(256):
                    changed = code[:place] + [byte] + code[place + 1 :]
                    self.assert_cleanly_refused_or_read(changed)
                    self.assert_cleanly_refused_or_read(sealed(*changed[:-1]))
                    self.assert_cleanly_refused_or_read(code[:place] + [byte] + code[place:])
                self.assert_cleanly_refused_or_read(code[:place] + code[place + 1 :])

    def test_drawn_bytes(self):
        source = random.Random(81)
        good = 0
        for _ in range(4000):
            before = []
            rules = allowed_bytes(before)
            allowed = next(rules)
            try:
                while True:
                    choices = sorted(allowed)
                    if not choices or source.random() < 0.005:
                        choices = [source.randint(-1, 256)]
                    before.append(source.choice(choices[:6]))
                    allowed = rules.send(before[-1])
            except (StopIteration, WrongName, IndexError):
                self.assert_cleanly_refused_or_read(list(before))
                good += place_of(list(before)) is None
        self.assertGreater(good, 50)


class DrawnPlans(unittest.TestCase):
    def test_both_ways(self):
        source = random.Random(82)
        for _ in range(300):
            plan = Drawn(source).text
            with self.subTest(plan):
                code = encode(plan)
                self.assertIsNone(expected_place(code))
                self.assertEqual(decode(code), format_plan(plan))
                self.assertEqual(encode(decode(code)), code)

    def test_the_bytes(self):
        source = random.Random(83)
        for _ in range(300):
            plan = Drawn(source)
            numbers = {name: number for number, name in enumerate(plan.names)}
            body = [87, plan.period, plan.limit, len(plan.names)]
            for name in plan.names:
                body += [1, LETTERS.index(name)]
            body += [numbers[name] for name in plan.rank]
            starts = sorted(plan.starts, key=lambda start: (start[1], numbers[start[0]]))
            body.append(len(starts))
            for name, tick, water in starts:
                body += [tick, numbers[name], water]
            ends = [tick for tick in plan.paused if tick + 1 not in plan.paused]
            begins = [tick for tick in plan.paused if tick - 1 not in plan.paused]
            body.append(len(begins))
            for first, last in zip(begins, ends):
                body += [first, last]
            with self.subTest(plan.text):
                self.assertEqual(encode(plan.text), sealed(*body))

    def test_an_error_changes_nothing(self):
        code = encode(BASE)
        for wrong in (None, [], code[:-1], code + [0], [87, 61]):
            before = repr(wrong)
            first = outcome(decode, wrong)
            self.assertEqual(outcome(decode, wrong), first)
            self.assertEqual(repr(wrong), before)
            self.assertEqual(decode(code), format_plan(BASE))


if __name__ == "__main__":
    unittest.main()
