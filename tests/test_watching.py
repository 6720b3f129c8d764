"""Point 11: what a meter tells of a plan."""

import random
import unittest

from tests.support import BASE, FAR, LONG, WRONG_KINDS, Drawn, Model, outcome, spoil
from watervalves.errors import CheckFault, Contradiction, InvalidCount, InvalidTick, SyntaxFault, TooLong
from watervalves.machine import find_cycle, open_valves
from watervalves.watching import Meter

ALL = [(limit, first) for limit in range(1, 10) for first in range(6)]
EIGHT = "round 1; open 1; valves a b c d e f g h;" + "".join(f"start {name} 0 for 1;" for name in "abcdefgh")
# The candidate (4, 0) has the latest situation that comes again: in tick 20,000 with a
# start of d in tick 1, in tick 20,001 with one in tick 2.
NEAR = (
    "round 3; open {}; valves a b c d; start a 0 for 29; start a 2 for 30;"
    "start b 0 for 17; start c 0 for 8; start d {} for 7;"
)


def limited(plan, limit):
    """Return BASE or LONG with another number of `open`."""
    return plan.replace("open 1", f"open {limit}").replace("open 3", f"open {limit}")


class Candidates(unittest.TestCase):
    def test_all_in_the_beginning(self):
        self.assertEqual(Meter(BASE).candidates, ALL)
        self.assertEqual(Meter("round 1; open 4; valves a;").candidates, [(limit, 0) for limit in range(1, 10)])

    def test_the_longest_round(self):
        meter = Meter("round 60; open 1; valves a b; start a 59 for 1; start b 59 for 1;")
        self.assertEqual(len(meter.candidates), 540)
        # With one open valve, the second one waters in the tick after the first one.
        self.assertEqual(meter.see(59, 2), 8)
        self.assertEqual(meter.candidates, [(limit, 0) for limit in range(2, 10)])

    def test_the_tick_with_which_the_plan_began(self):
        plan = "round 4; open 1; valves a; start a 3 for 1;"
        for first in range(4):
            meter = Meter(plan)
            self.assertEqual(meter.see(3 - first, 1), 9)
            self.assertEqual(meter.candidates, [(limit, first) for limit in range(1, 10)])

    def test_nothing_is_open_before_the_beginning(self):
        # By the plan itself, a is still open in tick 6; began there, it is not.
        plan = "round 6; open 1; valves a; start a 4 for 4; start a 1 for 1;"
        self.assertEqual(open_valves(plan, 6), ["a"])
        self.assertEqual(Meter(plan).see(0, 1), 18)
        meter = Meter(plan)
        meter.see(0, 1)
        self.assertEqual(sorted({first for _, first in meter.candidates}), [1, 4])

    def test_the_number_of_open(self):
        plan = "round 1; open 1; valves a b c; start a 0 for 1; start b 0 for 1; start c 0 for 1;"
        for number, limits in ((1, [1]), (2, [2]), (3, [3, 4, 5, 6, 7, 8, 9])):
            meter = Meter(plan)
            self.assertEqual(meter.see(0, number), len(limits))
            self.assertEqual(meter.candidates, [(limit, 0) for limit in limits])

    def test_the_given_number_does_not_matter(self):
        for limit in range(1, 10):
            plan = limited(BASE, limit)
            meter = Meter(plan)
            self.assertEqual(meter.candidates, ALL)
            self.assertEqual([meter.possible(tick) for tick in range(9)], [Meter(BASE).possible(tick) for tick in range(9)])
            self.assertEqual(meter.see_from(0, 1, 1, 1), 1)
            self.assertEqual(meter.candidates, [(1, 0)])

    def test_pauses_and_ranks(self):
        plan = "round 3; open 1; valves a b; rank b; start a 0 for 1; start b 0 for 2; pause 1 1;"
        meter = Meter(plan)
        # Ticks 0 to 2: b opened, held, closed; a only in the next round, where b comes again.
        self.assertEqual(meter.see_from(0, 1, 0, 1, 1), 1)
        self.assertEqual(meter.candidates, [(1, 0)])


class See(unittest.TestCase):
    def test_several_observations(self):
        meter = Meter(BASE)
        # It began with tick 0 and only one valve open, or with tick 1, or with tick 5.
        self.assertEqual(meter.see(1, 1), 1 + 9 + 9)
        self.assertEqual(meter.see(0, 1), 10)
        self.assertEqual(meter.see(2, 1), 1)
        self.assertEqual(meter.candidates, [(1, 0)])
        self.assertEqual(meter.history, [(1, 1), (0, 1), (2, 1)])

    def test_the_same_again(self):
        meter = Meter(BASE)
        self.assertEqual([meter.see(0, 1), meter.see(0, 1)], [18, 18])
        self.assertEqual(meter.history, [(0, 1), (0, 1)])

    def test_the_numbers_0_and_8(self):
        self.assertEqual(Meter(BASE).see(0, 0), 36)
        self.assertRaises(Contradiction, Meter(BASE).see, 0, 8)
        self.assertEqual(Meter(EIGHT).see(0, 8), 2)
        self.assertEqual(Meter("round 1; open 1; valves a;").see(FAR, 0), 9)
        self.assertRaises(Contradiction, Meter(EIGHT).see, 0, 0)

    def test_the_ticks_0_and_10_to_the_18th(self):
        # Tick 10 ** 18 is 4 modulo 6; two valves water where the round stands at 1.
        meter = Meter(BASE)
        self.assertEqual(meter.see(FAR, 2), 8)
        self.assertEqual(meter.candidates, [(limit, 3) for limit in range(2, 10)])
        self.assertEqual(meter.history, [(FAR, 2)])
        meter = Meter(BASE)
        self.assertEqual(meter.see(FAR, 1), 9 + 1 + 9 + 1)
        self.assertEqual(meter.see(0, 0), 20)

    def test_a_contradiction_is_not_accepted(self):
        meter = Meter(BASE)
        meter.see(0, 1)
        before = meter.candidates
        for tick, count in ((0, 0), (0, 2), (1, 8), (FAR, 3)):
            self.assertRaises(Contradiction, meter.see, tick, count)
            self.assertEqual(meter.candidates, before)
            self.assertEqual(meter.history, [(0, 1)])
        self.assertEqual(meter.see(2, 1), 9)

    def test_a_contradiction_of_several_readings(self):
        # Each number can be read alone, both together cannot.
        self.assertEqual(Meter(BASE).see(0, 0), 36)
        self.assertEqual(Meter(BASE).see(6, 2), 8)
        meter = Meter(BASE)
        meter.see(0, 1)
        meter.see(1, 2)
        self.assertRaises(Contradiction, meter.see, 2, 0)

    def test_wrong_ticks(self):
        meter = Meter(BASE)
        for tick in (-1, FAR + 1, -FAR, *WRONG_KINDS):
            with self.subTest(tick):
                self.assertRaises(InvalidTick, meter.see, tick, 1)
                self.assertRaises(InvalidTick, meter.see, tick, -1)
                self.assertRaises(InvalidTick, meter.see, tick, None)
        self.assertEqual([meter.candidates, meter.history], [ALL, []])

    def test_wrong_numbers(self):
        meter = Meter(BASE)
        for count in (-1, 9, FAR, *WRONG_KINDS):
            with self.subTest(count):
                self.assertRaises(InvalidCount, meter.see, 0, count)
                self.assertRaises(InvalidCount, meter.see, FAR, count)
        self.assertEqual([meter.candidates, meter.history], [ALL, []])


class SeeFrom(unittest.TestCase):
    def test_successive_ticks(self):
        meter = Meter(BASE)
        self.assertEqual(meter.see_from(3, 1, 0, 0), 9)
        self.assertEqual(meter.history, [(3, 1), (4, 0), (5, 0)])
        self.assertEqual(meter.candidates, [(1, 0)] + [(limit, 5) for limit in range(2, 10)])

    def test_it_is_the_same_as_to_see_them(self):
        meter, other = Meter(BASE), Meter(BASE)
        found = [meter.see(tick, count) for tick, count in ((7, 1), (8, 1), (9, 0))]
        self.assertEqual(other.see_from(7, 1, 1, 0), found[-1])
        self.assertEqual(other.candidates, meter.candidates)
        self.assertEqual(other.history, meter.history)

    def test_no_number(self):
        meter = Meter(BASE)
        self.assertEqual(meter.see_from(0), 54)
        meter.see(0, 1)
        self.assertEqual(meter.see_from(FAR), 18)
        self.assertEqual(meter.history, [(0, 1)])
        for first in (-1, FAR + 1, *WRONG_KINDS):
            self.assertRaises(InvalidTick, meter.see_from, first)

    def test_beyond_the_last_tick(self):
        meter = Meter(BASE)
        self.assertRaises(InvalidTick, meter.see_from, FAR, 1, 1)
        self.assertRaises(InvalidTick, meter.see_from, FAR - 1, 1, 1, 1)
        self.assertEqual([meter.candidates, meter.history], [ALL, []])
        self.assertEqual(meter.see_from(FAR - 1, 1, 2), 8)
        self.assertEqual(meter.history, [(FAR - 1, 1), (FAR, 2)])

    def test_none_is_accepted_if_one_is_refused(self):
        meter = Meter(BASE)
        meter.see(0, 1)
        before = meter.candidates
        for first, counts, error in (
            (1, (1, 9), InvalidCount),
            (1, (1, True), InvalidCount),
            (1, (1, 8), Contradiction),
            (FAR, (0, 0), InvalidTick),
            (-1, (1, 1), InvalidTick),
        ):
            with self.subTest(first=first, counts=counts):
                self.assertRaises(error, meter.see_from, first, *counts)
                self.assertEqual([meter.candidates, meter.history], [before, [(0, 1)]])

    def test_the_first_error_counts(self):
        meter = Meter(BASE)
        for first, counts, error in (
            (0, (8, -1), Contradiction),
            (0, (-1, 8), InvalidCount),
            (0, (None, None), InvalidCount),
            (0, (1, 1, 8, "0"), Contradiction),
            (0, (1, [], 8), InvalidCount),
            (FAR, (8, 1), Contradiction),
            (FAR, (9, 1), InvalidCount),
            (FAR, (1, 9), InvalidTick),
            (FAR, (1, 8), InvalidTick),
            (FAR + 1, (9,), InvalidTick),
            (-1, (9, 8), InvalidTick),
            (True, (9, 8), InvalidTick),
            ("0", (1,), InvalidTick),
        ):
            with self.subTest(first=first, counts=counts):
                self.assertRaises(error, meter.see_from, first, *counts)

    def test_readings_that_contradict_each_other(self):
        meter = Meter(BASE)
        self.assertRaises(Contradiction, meter.see_from, 0, 0, 2, 0)
        self.assertEqual(meter.candidates, ALL)


class Possible(unittest.TestCase):
    def test_the_numbers_of_all_candidates(self):
        meter = Meter(BASE)
        self.assertEqual(meter.possible(0), [0, 1])
        self.assertEqual(meter.possible(1), [0, 1, 2])
        self.assertEqual(meter.possible(FAR), [0, 1, 2])

    def test_the_candidates_that_remain(self):
        meter = Meter(BASE)
        meter.see(0, 1)
        self.assertEqual([meter.possible(tick) for tick in range(4)], [[1], [1, 2], [0, 1], [0, 1]])
        meter.see(1, 2)
        self.assertEqual([meter.possible(tick) for tick in range(8)], [[1], [2], [1], [0], [0], [0], [1], [2]])

    def test_nothing_is_observed(self):
        meter = Meter(BASE)
        meter.possible(1)
        self.assertEqual([meter.candidates, meter.history], [ALL, []])

    def test_wrong_ticks(self):
        for tick in (-1, FAR + 1, *WRONG_KINDS):
            with self.subTest(tick):
                self.assertRaises(InvalidTick, Meter(BASE).possible, tick)

    def test_the_numbers_are_those_of_the_valves_that_water(self):
        plan = "round 5; open {}; valves b a c; start a 0 for 3; start b 1 for 4; start c 1 for 2; pause 3 3;"
        for limit in range(1, 10):
            counts = [len(open_valves(plan.format(limit), tick)) for tick in range(60)]
            meter = Meter(plan.format(1))
            for tick, count in enumerate(counts):
                self.assertIn(count, meter.possible(tick))
            meter.see_from(0, *counts)
            self.assertIn((limit, 0), meter.candidates)
            self.assertEqual([meter.possible(tick) for tick in range(60)], [[count] for count in counts])


class Plans(unittest.TestCase):
    def test_errors_of_plans(self):
        for wrong in ("", None, True, 0, [], (), [BASE], "round 6; open 1; valves a"):
            with self.subTest(wrong):
                self.assertRaises(SyntaxFault, Meter, wrong)
        for wrong in ("round 6; open 0; valves a;", "round 0; open 1; valves a;", "round 6; open 10; valves a;"):
            with self.subTest(wrong):
                self.assertRaises(CheckFault, Meter, wrong)
        self.assertRaises(SyntaxFault, Meter, "round 0; open 1; valves a")
        self.assertRaises(CheckFault, Meter, LONG + "rank a a;")

    def test_too_long(self):
        self.assertRaises(TooLong, Meter, LONG)

    def test_too_long_by_another_number_of_open(self):
        plan = limited(LONG, 1)
        self.assertEqual(len(find_cycle(plan)), 2)
        self.assertRaises(TooLong, Meter, plan)

    def test_too_long_by_another_beginning(self):
        plan = (
            "round 3; open {}; valves a b c d; start a 1 for 25; start b 2 for 21;"
            "start c 2 for 19; start d 2 for 10; start b 0 for 11;"
        )
        for limit in range(1, 10):
            self.assertEqual(len(find_cycle(plan.format(limit))), 2)
        self.assertRaises(TooLong, Meter, plan.format(1))

    def test_too_long_by_what_leads_to_a_cycle_that_is_short_enough(self):
        plan = (
            "round 3; open {}; valves a b c d; start a 1 for 21; start a 0 for 24;"
            "start b 1 for 25; start c 2 for 6; start d 2 for 19;"
        )
        for limit in range(1, 10):
            self.assertLessEqual(sum(find_cycle(plan.format(limit))), 20000)
        # Begun in a later tick, the same cycle is reached so late that it ends in tick 20,001.
        self.assertRaises(TooLong, Meter, plan.format(1))

    def test_the_last_tick_that_is_early_enough(self):
        self.assertEqual(len(Meter(NEAR.format(1, 1)).candidates), 27)
        self.assertEqual(len(Meter(NEAR.format(9, 1)).candidates), 27)
        self.assertRaises(TooLong, Meter, NEAR.format(1, 2))
        self.assertRaises(TooLong, Meter, NEAR.format(9, 2))


class Objects(unittest.TestCase):
    def test_the_lists_are_new(self):
        meter = Meter(BASE)
        meter.see_from(0, 1, 1)
        before = repr([meter.candidates, meter.history, meter.possible(3)])
        for found in (meter.candidates, meter.history, meter.possible(3)):
            self.assertIs(type(found), list)
            spoil(found)
        self.assertEqual(repr([meter.candidates, meter.history, meter.possible(3)]), before)

    def test_the_kinds_of_values(self):
        meter = Meter(BASE)
        meter.see(0, 1)
        self.assertEqual({type(part) for part in meter.candidates + meter.history}, {tuple})
        self.assertIs(type(meter.see(1, 1)), int)

    def test_meters_do_not_influence_each_other(self):
        one, two = Meter(BASE), Meter(BASE)
        one.see_from(0, 1, 1, 1)
        self.assertEqual([two.candidates, two.history, two.possible(0)], [ALL, [], [0, 1]])
        two.see(0, 0)
        self.assertEqual([one.candidates, one.history], [[(1, 0)], [(0, 1), (1, 1), (2, 1)]])


class DrawnPlans(unittest.TestCase):
    def model(self, plan, limit, first):
        model = Model(plan.period, limit, plan.names, plan.rank, plan.starts, plan.paused)
        model.tick = first
        return model

    def counts(self, plan, limit, first, most):
        """Return the beginning of the cycle, and the numbers up to its end; None if it is too late."""
        model = self.model(plan, limit, first)
        seen, counts = {}, []
        while model.situation() not in seen:
            if len(counts) == most:
                return None
            seen[model.situation()] = len(counts)
            counts.append(len(model.step()[1]))
        return seen[model.situation()], counts

    def draw(self, source, most):
        """Draw a plan; return it with the counts of all candidates."""
        while True:
            plan = Drawn(source)
            if plan.period > 12:
                continue
            found = {}
            for limit in range(1, 10):
                for first in range(plan.period):
                    found[limit, first] = self.counts(plan, limit, first, most)
            if None not in found.values():
                return plan, found

    def count_at(self, flow, tick):
        begin, counts = flow
        if tick >= begin:
            tick = begin + (tick - begin) % (len(counts) - begin)
        return counts[tick]

    def test_the_numbers_of_all_candidates(self):
        source = random.Random(71)
        for _ in range(30):
            plan, flows = self.draw(source, 300)
            ticks = [*range(40), FAR, *(source.randint(0, 2000) for _ in range(20)), source.randint(0, FAR)]
            meter = Meter(plan.text)
            for tick in ticks:
                with self.subTest(plan=plan.text, tick=tick):
                    expected = sorted({self.count_at(flow, tick) for flow in flows.values()})
                    self.assertEqual(meter.possible(tick), expected)

    def test_readings(self):
        source = random.Random(72)
        for _ in range(40):
            plan, flows = self.draw(source, 200)
            meter = Meter(plan.text)
            left, history = dict(flows), []
            truth = flows[source.choice(list(flows))]
            for _ in range(25):
                tick = source.choice((source.randint(0, 30), source.randint(0, 900), source.randint(0, FAR), FAR))
                counts = [self.count_at(truth, tick + step) for step in range(source.randint(0, 4))]
                if counts and source.random() < 0.4:
                    counts[source.randrange(len(counts))] = source.randint(-1, 9)
                expected, left, history = self.observe(left, history, tick, counts)
                with self.subTest(plan=plan.text, tick=tick, counts=counts):
                    if len(counts) == 1 and source.random() < 0.5:
                        found = outcome(meter.see, tick, counts[0])
                    else:
                        found = outcome(meter.see_from, tick, *counts)
                    self.assertEqual(found, expected)
                    self.assertEqual(meter.candidates, sorted(left))
                    self.assertEqual(meter.history, history)

    def observe(self, left, history, first, counts):
        """Return the outcome of observations, the flows that remain and the new history."""
        kept, seen = left, list(history)
        for tick, count in enumerate(counts, first):
            if tick > FAR:
                return ("InvalidTick", {}), left, history
            if not 0 <= count <= 8:
                return ("InvalidCount", {}), left, history
            kept = {key: flow for key, flow in kept.items() if self.count_at(flow, tick) == count}
            if not kept:
                return ("Contradiction", {}), left, history
            seen.append((tick, count))
        return len(kept), kept, seen


if __name__ == "__main__":
    unittest.main()
