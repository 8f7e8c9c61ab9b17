"""Points 2, 3, 22 and 23: looked and planned."""

import copy
import itertools
import random
import unittest

import grounds
import samples
from lapwork.benches import Bench
from lapwork.errors import NoArm
from lapwork.loops import Loop
from lapwork.planner import looked, planned
from lapwork.plans import fault, serial
from lapwork.trees import closes
from samples import CHAIN, CHAIN_BENCH, EACH, WORDS, bench_of, lone

# a and b wait for one another. At pace 4 b must begin just two ticks behind a, while a keeps the arm for three.
PAIR = Loop(97, [("a", "same", (("b", 1),)), ("b", "tell", (("a", 0),))])
PAIR_BENCH = Bench([("left", 1)], [("same", "left", 2, 3), ("tell", "left", 2, 1)])


class Telling(unittest.TestCase):
    def check_plan(self, loop, bench, pace, starts):
        self.assertIs(type(starts), list)
        self.assertEqual([type(start) for start in starts], [int] * len(loop.rows()))
        self.assertIsNone(fault(loop, bench, pace, starts))
        case = dict(enumerate(starts))
        self.assertTrue(grounds.is_roomy(loop, bench, pace, case))
        for source, reader, back, delay in grounds.all_ties(loop, bench):
            self.assertGreaterEqual(starts[reader] + pace * back, starts[source] + delay)

    def check_ground(self, loop, bench, pace, ground):
        self.assertIs(type(ground), tuple)
        if ground == ("open",):
            self.assertTrue(grounds.may_be_open(loop, bench, pace), pace)
            return
        self.assertEqual((ground[0], len(ground)), ("shut", 2))
        self.assertIs(closes(loop, bench, pace, ground[1]), True)
        self.assertTrue(grounds.good(loop, bench, pace, ground[1], {0: 0}))
        count, depth = grounds.count_and_depth(ground[1])
        self.assertLessEqual(count, 4000)
        self.assertLessEqual(depth, 14)

    def look(self, loop, bench, pace):
        """Which of the three is told, with all that it must keep to looked at."""
        met = looked(loop, bench, pace)
        if met[0] == "plan":
            self.assertEqual((type(met), len(met)), (tuple, 2))
            self.check_plan(loop, bench, pace, met[1])
        else:
            self.check_ground(loop, bench, pace, met)
        return met[0]

    def plan(self, loop, bench):
        pace, starts, told = planned(loop, bench)
        self.check_plan(loop, bench, pace, starts)
        self.assertLessEqual(pace, serial(loop, bench)[0])
        self.assertEqual((type(told), len(told)), (list, pace - 1))
        for lesser, ground in enumerate(told, start=1):
            self.check_ground(loop, bench, lesser, ground)
        return pace, [ground[0] for ground in told]


class LookedByHand(Telling):
    def test_a_chain(self):
        self.assertEqual([self.look(CHAIN, CHAIN_BENCH, pace) for pace in range(1, 5)], ["shut", "plan", "plan", "plan"])

    def test_where_no_arm_is_full_and_no_ring_closes_and_still_nothing_fits(self):
        told = [self.look(PAIR, PAIR_BENCH, pace) for pace in range(1, 8)]
        self.assertEqual(told, ["shut"] * 4 + ["plan"] * 3)
        self.assertFalse(grounds.has_full_arm(PAIR, PAIR_BENCH, 4))
        self.assertFalse(grounds.has_ring(PAIR, PAIR_BENCH, 4))
        self.assertEqual(looked(PAIR, PAIR_BENCH, 4)[1][0], "part")

    def test_rows_without_ties_fill_an_arm_to_the_brim(self):
        for count, hold, width in itertools.product((1, 2, 3, 7, 12), range(1, 7), range(1, 5)):
            bench = bench_of(hold=hold, width=width)
            for pace in range(1, 20):
                wanted = "plan" if count * hold <= width * pace else "shut"
                self.assertEqual(self.look(lone(count), bench, pace), wanted, (count, hold, width, pace))


class OneRow(Telling):
    def test_all_paces(self):
        for pace in list(range(1, 14)) + [79, 80]:
            for delay, hold, width, back in itertools.product((1, 4, 6), (1, 5, 6), (1, 2, 4), (1, 2, 6)):
                loop, bench = Loop(97, [("a", "same", (("a", back),))]), bench_of(delay, hold, width)
                wanted = "plan" if pace * back >= delay and pace * width >= hold else "shut"
                self.assertEqual(self.look(loop, bench, pace), wanted, (pace, delay, hold, width, back))

    def test_without_ties(self):
        for pace in (1, 2, 5, 6, 80):
            self.assertEqual(self.look(lone(1), bench_of(hold=6), pace), "plan" if pace >= 6 else "shut")


class NeverOpen(Telling):
    """Where the product of paces is a hundred at most, all is known; what is told is held against all rests."""

    def against_all_rests(self, seed, pace, least, most):
        loop, bench = grounds.tight(seed, least, most)
        wanted = "plan" if grounds.some_plan(loop, bench, pace) is not None else "shut"
        self.assertEqual(self.look(loop, bench, pace), wanted, (seed, pace))
        parted = wanted == "shut" and looked(loop, bench, pace)[1][0] == "part"
        return "part" if parted else wanted

    def test_a_hundred_at_most(self):
        most = {1: 12, 2: 7, 3: 5, 4: 4, 5: 3, 6: 3, 7: 3, 8: 3, 9: 3, 10: 3, 11: 2, 12: 2, 20: 2}
        for pace, count in most.items():
            self.assertLessEqual(pace ** (count - 1), 100)
            self.assertTrue(pace == 1 or pace >= 11 or pace ** count > 100)
        told = []
        for seed in range(130):
            for pace, count in most.items():
                told.append(self.against_all_rests(seed, pace, 1, count))
                told.append(self.against_all_rests(seed + 1000, pace, count, count))
        for sort in ("plan", "shut", "part"):
            self.assertGreater(told.count(sort), 20, sort)

    def test_pace_eighty(self):
        for seed in range(12):
            self.assertEqual(self.against_all_rests(seed, 80, 1, 2), "plan")
            self.assertEqual(self.look(*grounds.tight(seed, 12, 12), 80), "plan")

    def test_pace_one_with_twelve_rows(self):
        told = [self.against_all_rests(seed, 1, 12, 12) for seed in range(30)]
        self.assertNotIn("open", told)
        roomy = Bench([("x", 4), ("y", 4), ("z", 4)], [("same", "x", 1, 1), ("tell", "y", 1, 1), ("sum", "z", 1, 1)])
        words = ["same", "tell", "sum"] * 4
        rows = [(name, word, (1,) * samples.WANTS[word]) for name, word in zip(samples.NAMES, words)]
        self.assertEqual(self.look(Loop(97, rows), roomy, 1), "plan")
        chained = [(name, word, ((samples.NAMES[place - 1], 0),) * samples.WANTS[word] if place else (1,))
                   for place, (name, word) in enumerate(zip(samples.NAMES, words))]
        self.assertEqual(self.look(Loop(97, chained), roomy, 1), "plan")

    def test_pace_two_with_seven_rows(self):
        for seed in range(60):
            self.against_all_rests(seed, 2, 7, 7)
            self.against_all_rests(seed, 3, 5, 5)


class NoneMissed(Telling):
    def test_starts_gone_through_one_by_one(self):
        told = []
        for seed in range(250):
            chance = random.Random(seed)
            loop, bench = grounds.tight(seed, 2, 3)
            pace = chance.randint(1, 6)
            ranges = [range(18)] * (len(loop.rows()) - 1)
            wanted = "shut"
            for rest in itertools.product(range(12, 12 + pace), *ranges):
                if fault(loop, bench, pace, list(rest)) is None:
                    wanted = "plan"
                    break
            met = self.look(loop, bench, pace)
            if wanted == "plan":
                self.assertEqual(met, "plan", seed)
            told.append(met)
        self.assertGreater(min(told.count("plan"), told.count("shut")), 20)

    def test_more_cases_than_a_hundred(self):
        for seed in range(60):
            loop, bench = grounds.tight(seed, 4, 5)
            for pace in (4, 5):
                if grounds.some_plan(loop, bench, pace) is None:
                    self.assertNotEqual(self.look(loop, bench, pace), "plan")
                else:
                    self.assertNotEqual(self.look(loop, bench, pace), "shut")


class ManyRows(Telling):
    def test_all_paces_of_tight_loops(self):
        for seed in range(40):
            loop, bench = grounds.tight(seed, 6, 12)
            for pace in list(range(1, 81, 7)) + [80]:
                self.look(loop, bench, pace)

    def test_full_arms_and_rings_are_never_open(self):
        for seed in range(150):
            loop, bench = grounds.tight(seed, 8, 12)
            for pace in (3, 6, 9, 12, 15):
                if grounds.has_full_arm(loop, bench, pace) or grounds.has_ring(loop, bench, pace):
                    self.assertEqual(self.look(loop, bench, pace), "shut", (seed, pace))

    def test_paces_of_serial_and_beyond_have_a_plan(self):
        for seed in range(40):
            loop, bench = grounds.tight(seed)
            for pace in (serial(loop, bench)[0], 73, 80):
                self.assertEqual(self.look(loop, bench, pace), "plan")


class Planned(Telling):
    def test_by_hand(self):
        self.assertEqual(self.plan(CHAIN, CHAIN_BENCH), (2, ["shut"]))
        self.assertEqual(self.plan(PAIR, PAIR_BENCH), (5, ["shut"] * 4))
        self.assertEqual(self.plan(lone(12), bench_of(hold=6)), (72, ["shut"] * 71))
        self.assertEqual(self.plan(lone(12), bench_of(delay=6, width=4)), (3, ["shut"] * 2))

    def test_one_row(self):
        for delay, hold, width, back in itertools.product(range(1, 7), range(1, 7), range(1, 5), (1, 2, 3, 6)):
            loop, bench = Loop(97, [("a", "same", (("a", back),))]), bench_of(delay, hold, width)
            # The least pace for which back paces are as long as the delay, and width paces as long as the hold.
            least = max(-(-delay // back), -(-hold // width))
            self.assertEqual(self.plan(loop, bench), (least, ["shut"] * (least - 1)))
            self.assertEqual(self.plan(lone(1), bench)[0], -(-hold // width))

    def test_twelve_rows(self):
        for measure, delay, hold, width in itertools.product((2, 97), (1, 6), (1, 2, 6), (1, 4)):
            self.plan(Loop(measure, EACH), bench_of(delay, hold, width))
        for seed in range(25):
            self.plan(*grounds.tight(seed, 12, 12))
            self.plan(samples.some_loop(seed, 12), samples.some_bench(seed))

    def test_tight_loops(self):
        for seed in range(120):
            self.plan(*grounds.tight(seed, 1, 9))

    def test_many_loops(self):
        for seed in range(150):
            self.plan(samples.some_loop(seed), samples.some_bench(seed))

    def test_the_least_pace_of_small_loops(self):
        for seed in range(120):
            loop, bench = grounds.tight(seed, 1, 3)
            pace, told = self.plan(loop, bench)
            lesser = [other for other in range(1, min(pace, 11)) if grounds.some_plan(loop, bench, other) is not None]
            self.assertEqual(lesser, [])
            self.assertNotIn("open", told[:10])

    def test_paces_of_loops_that_are_hard_to_plan(self):
        # Not promised; held here so that a change that spoils the search does not go by unseen.
        paces, told = 0, []
        for seed in range(60):
            pace, sorts = self.plan(*grounds.tight(seed, 8, 12))
            paces += pace
            told.extend(sorts)
        self.assertLessEqual(paces, 1080)
        self.assertLessEqual(told.count("open"), 8)

    def test_where_serial_is_the_best_there_is(self):
        # Each row waits for the one above, the first one for the last one, and all arms are kept all the while.
        for count in range(1, 13):
            rows = [(samples.NAMES[place], "same", ((samples.NAMES[place - 1], 0),)) for place in range(1, count)]
            rows = [("a", "same", ((samples.NAMES[count - 1], 1),))] + rows
            loop = Loop(97, rows)
            for delay, hold in ((6, 1), (6, 6), (2, 2)):
                pace, told = self.plan(loop, bench_of(delay, hold))
                self.assertEqual((pace, told), (delay * count, ["shut"] * (delay * count - 1)))
                self.assertEqual(serial(loop, bench_of(delay, hold))[0], pace)


class Refused(unittest.TestCase):
    def test_no_arm(self):
        for word in WORDS:
            bench = samples.bench_without(word)
            for rows in (EACH, [("a", word, (1,) * samples.WANTS[word])]):
                for ask in (planned, lambda loop, bench: looked(loop, bench, 1), lambda loop, bench: looked(loop, bench, 80)):
                    with self.assertRaises(NoArm) as caught:
                        ask(Loop(97, rows), bench)
                    self.assertIs(type(caught.exception), NoArm)


class WhoseItIs(unittest.TestCase):
    def test_what_is_told_is_the_askers_own(self):
        for loop, bench in ((PAIR, PAIR_BENCH), (CHAIN, CHAIN_BENCH), grounds.tight(3), grounds.tight(7, 12, 12)):
            rows = loop.rows()
            first = planned(loop, bench)
            kept = copy.deepcopy(first)
            first[1].append(5)
            first[1][0] = -1
            for ground in first[2]:
                if ground[0] == "shut" and isinstance(ground[1][-1], list):
                    ground[1][-1].clear()
            first[2].clear()
            self.assertEqual(planned(loop, bench), kept)
            for pace in (1, 4, 80):
                met = looked(loop, bench, pace)
                kept = copy.deepcopy(met)
                if len(met) == 2 and isinstance(met[1], list):
                    met[1].clear()
                self.assertEqual(looked(loop, bench, pace), kept)
            self.assertEqual(loop.rows(), rows)

    def test_no_two_branches_are_one_and_the_same(self):
        lists = []

        def gather(tree):
            if isinstance(tree[-1], list):
                lists.append(tree[-1])
            if tree[0] == "part":
                for branch in tree[2]:
                    gather(branch)

        for seed in range(60):
            for ground in planned(*grounds.tight(seed, 3, 6))[2]:
                if ground[0] == "shut":
                    gather(ground[1])
        self.assertEqual(len({id(each) for each in lists}), len(lists))

    def test_kinds(self):
        told = planned(PAIR, PAIR_BENCH)
        self.assertIs(type(told), tuple)
        self.assertEqual([type(part) for part in told], [int, list, list])
        self.assertEqual([type(part) for part in looked(PAIR, PAIR_BENCH, 5)], [str, list])
        self.assertEqual([type(part) for part in looked(PAIR, PAIR_BENCH, 4)], [str, tuple])
        tree = looked(PAIR, PAIR_BENCH, 4)[1]
        self.assertEqual([type(part) for part in tree], [str, int, list])
        self.assertEqual({type(branch) for branch in tree[2]}, {tuple})


if __name__ == "__main__":
    unittest.main()
