"""Points 2, 3, 14, 16, 17 and 18: plans, fault and serial."""

import copy
import random
import unittest

import samples
from lapwork.benches import Bench
from lapwork.errors import BadPlan, NoArm
from lapwork.loops import Loop
from lapwork.plans import fault, serial
from lapwork.ties import ties
from samples import CHAIN, CHAIN_BENCH, EACH, GREAT, WORDS, bench_of, lone


def kept_ticks(loop, bench, pace, starts):
    """By arm and tick how many keep it, of so many turns that the last ticks are as full as any can be."""
    last = max(starts) + 6 + 2 * pace
    kept = {}
    for row, start in zip(loop.rows(), starts):
        arm, delay, hold = bench.work(row[1])
        for begin in range(start, last + 1, pace):
            for tick in range(begin, begin + hold):
                kept[arm, tick] = kept.get((arm, tick), 0) + 1
    return kept, last


def fault_by_ticks(loop, bench, pace, starts):
    """The fault, found by walking the ticks of point 14 one by one."""
    lands = [start + bench.work(row[1])[1] for row, start in zip(loop.rows(), starts)]
    for place, (source, reader, back, delay) in enumerate(ties(loop, bench)):
        # What the source made at turn 0 is read by the reader of turn back.
        if lands[source] > starts[reader] + pace * back:
            return "tie", place
    kept, last = kept_ticks(loop, bench, pace, starts)
    for arm in bench.arms():
        over = [tick % pace for tick in range(last + 1) if kept.get((arm, tick), 0) > bench.width(arm)]
        if over:
            return "arm", arm, min(over)
    return None


class Ties(unittest.TestCase):
    def test_a_plan_that_fits(self):
        self.assertIsNone(fault(CHAIN, CHAIN_BENCH, 2, [0, 1, 5]))
        self.assertIsNone(fault(CHAIN, CHAIN_BENCH, 7, [0, 1, 5]))

    def test_a_start_one_less_and_one_more_than_what_fits(self):
        self.assertEqual(ties(CHAIN, CHAIN_BENCH), [(0, 1, 0, 1), (1, 2, 0, 4), (2, 2, 1, 2)])
        self.assertEqual(fault(CHAIN, CHAIN_BENCH, 2, [0, 0, 5]), ("tie", 0))
        self.assertEqual(fault(CHAIN, CHAIN_BENCH, 2, [1, 1, 5]), ("tie", 0))
        self.assertEqual(fault(CHAIN, CHAIN_BENCH, 2, [0, 1, 4]), ("tie", 1))
        self.assertEqual(fault(CHAIN, CHAIN_BENCH, 2, [0, 2, 5]), ("tie", 1))
        self.assertIsNone(fault(CHAIN, CHAIN_BENCH, 2, [0, 1, 6]))
        self.assertIsNone(fault(CHAIN, CHAIN_BENCH, 2, [0, 2, 6]))

    def test_a_row_that_reads_itself_bounds_the_pace(self):
        for back in range(1, 7):
            loop = Loop(97, [("a", "same", (("a", back),))])
            for delay in range(1, 7):
                bench = bench_of(delay=delay)
                for pace in range(1, 8):
                    wanted = None if pace * back >= delay else ("tie", 0)
                    for start in (0, 5, 2000):
                        self.assertEqual(fault(loop, bench, pace, [start]), wanted)

    def test_a_read_of_a_later_row(self):
        loop = Loop(97, [("a", "same", (("b", 2),)), ("b", "tell", (1,))])
        bench = bench_of(delay=3, width=2)
        for pace in (1, 2, 5):
            for start in range(2 * pace + 3):
                wanted = None if 0 + pace * 2 >= start + 3 else ("tie", 0)
                self.assertEqual(fault(loop, bench, pace, [0, start]), wanted)

    def test_the_delay_counts_and_not_the_hold(self):
        loop = Loop(97, [("a", "same", (1,)), ("b", "same", (("a", 0),))])
        self.assertEqual(fault(loop, bench_of(delay=5, hold=1), 9, [0, 4]), ("tie", 0))
        self.assertIsNone(fault(loop, bench_of(delay=5, hold=1), 9, [0, 5]))
        self.assertIsNone(fault(loop, bench_of(delay=1, hold=4, width=2), 9, [0, 1]))

    def test_the_first_broken_tie_is_told(self):
        loop = Loop(97, [("x", "same", (1,)), ("y", "same", (1,)), ("a", "sum", (("y", 0), ("x", 0)))])
        bench = bench_of(delay=2, width=4)
        self.assertEqual(fault(loop, bench, 9, [0, 0, 1]), ("tie", 0))
        self.assertEqual(fault(loop, bench, 9, [1, 0, 2]), ("tie", 1))
        self.assertEqual(fault(loop, bench, 9, [0, 1, 2]), ("tie", 0))
        self.assertIsNone(fault(loop, bench, 9, [0, 1, 3]))

    def test_the_place_counts_each_tie_once(self):
        loop = Loop(97, [("x", "same", (1,)), ("a", "times", (("x", 0), ("x", 0))), ("b", "same", (("a", 0),))])
        self.assertEqual(fault(loop, bench_of(width=4), 9, [0, 1, 1]), ("tie", 1))


class Arms(unittest.TestCase):
    def test_two_rows_in_one_tick(self):
        self.assertEqual(fault(lone(2), bench_of(), 5, [3, 3]), ("arm", "arm", 3))
        self.assertIsNone(fault(lone(2), bench_of(), 5, [3, 4]))
        self.assertIsNone(fault(lone(2), bench_of(), 5, [3, 2]))

    def test_starts_beyond_the_pace_count_by_rests(self):
        for more in (5, 10, 1995):
            self.assertEqual(fault(lone(2), bench_of(), 5, [3, 3 + more]), ("arm", "arm", 3))
            self.assertIsNone(fault(lone(2), bench_of(), 5, [3, 2 + more]))
            self.assertIsNone(fault(lone(2), bench_of(), 5, [3, 1 + more]))

    def test_holds(self):
        self.assertIsNone(fault(lone(2), bench_of(hold=3), 6, [0, 3]))
        self.assertEqual(fault(lone(2), bench_of(hold=3), 6, [0, 2]), ("arm", "arm", 2))
        # One that begins late in the pace is still there when the next turn begins.
        self.assertEqual(fault(lone(2), bench_of(hold=3), 6, [0, 4]), ("arm", "arm", 0))
        self.assertEqual(fault(lone(2), bench_of(hold=3), 6, [1, 5]), ("arm", "arm", 1))
        self.assertEqual(fault(lone(2), bench_of(hold=3), 5, [0, 3]), ("arm", "arm", 0))
        self.assertIsNone(fault(lone(2), bench_of(hold=3), 7, [0, 3]))
        self.assertIsNone(fault(lone(2), bench_of(hold=3), 7, [0, 4]))

    def test_a_hold_above_the_pace(self):
        for hold in range(1, 7):
            for width in range(1, 5):
                for pace in range(1, 8):
                    # At the start's own rest there are most: as many as paces begin within the hold.
                    fits = -(-hold // pace) <= width
                    for start in (0, 1, 6, 2000):
                        met = fault(lone(1), bench_of(hold=hold, width=width), pace, [start])
                        self.assertEqual(met is None, fits, (hold, width, pace))
        self.assertEqual(fault(lone(1), bench_of(hold=4), 3, [2]), ("arm", "arm", 2))
        self.assertEqual(fault(lone(1), bench_of(hold=5), 3, [2]), ("arm", "arm", 0))
        self.assertEqual(fault(lone(1), bench_of(hold=6), 4, [3]), ("arm", "arm", 0))
        self.assertEqual(fault(lone(1), bench_of(hold=6), 1, [3]), ("arm", "arm", 0))

    def test_widths(self):
        for width in range(1, 5):
            starts = [4] * width
            self.assertIsNone(fault(lone(width), bench_of(width=width), 7, starts))
            self.assertEqual(fault(lone(width + 1), bench_of(width=width), 7, starts + [4]), ("arm", "arm", 4))
            self.assertIsNone(fault(lone(width + 1), bench_of(width=width), 7, starts + [5]))

    def test_an_arm_that_is_just_full(self):
        self.assertIsNone(fault(lone(12), bench_of(), 12, list(range(12))))
        self.assertIsNone(fault(lone(12), bench_of(hold=2, width=4), 6, [0, 2, 4] * 4))
        self.assertEqual(fault(lone(12), bench_of(), 11, list(range(12))), ("arm", "arm", 0))

    def test_the_least_rest_and_the_first_arm_in_the_benchs_order(self):
        works = [("same", "z", 1, 1), ("tell", "a", 1, 1)]
        loop = Loop(97, [(name, word, (1,)) for name, word in zip("abcd", ["tell", "tell", "same", "same"])])
        bench = Bench([("z", 1), ("m", 1), ("a", 1)], works)
        self.assertEqual(fault(loop, bench, 9, [1, 1, 5, 5]), ("arm", "z", 5))
        self.assertEqual(fault(loop, bench, 9, [1, 1, 5, 6]), ("arm", "a", 1))
        other = Bench([("a", 1), ("z", 1)], works)
        self.assertEqual(fault(loop, other, 9, [1, 1, 5, 5]), ("arm", "a", 1))
        self.assertEqual(fault(lone(4), bench_of(), 9, [7, 7, 2, 11]), ("arm", "arm", 2))
        self.assertEqual(fault(lone(4), bench_of(), 9, [17, 17, 8, 7]), ("arm", "arm", 8))

    def test_arms_do_not_count_together(self):
        bench = Bench([("a", 1), ("b", 1)], [("same", "a", 1, 6), ("tell", "b", 1, 6)])
        loop = Loop(97, [("x", "same", (1,)), ("y", "tell", (1,))])
        self.assertIsNone(fault(loop, bench, 6, [0, 0]))
        self.assertIsNone(fault(loop, bench, 6, [3, 2000]))

    def test_ties_come_ahead_of_arms(self):
        loop = Loop(97, [("a", "same", (1,)), ("b", "same", (1,)), ("c", "same", (("a", 0),))])
        self.assertEqual(fault(loop, bench_of(), 5, [0, 0, 0]), ("tie", 0))
        self.assertEqual(fault(loop, bench_of(), 5, [0, 0, 1]), ("arm", "arm", 0))
        self.assertEqual(fault(CHAIN, CHAIN_BENCH, 1, [0, 1, 5]), ("tie", 2))


class AgainstTheTicks(unittest.TestCase):
    def test_many_plans(self):
        seen = {}
        for seed in range(1500):
            chance = random.Random(seed)
            loop, bench = samples.some_loop(seed, chance.randint(1, 6)), samples.some_bench(seed)
            pace = chance.randint(1, 12)
            starts = [chance.randint(0, chance.choice((3, 20, 40))) for row in loop.rows()]
            met = fault(loop, bench, pace, starts)
            self.assertEqual(met, fault_by_ticks(loop, bench, pace, starts), seed)
            sort = None if met is None else met[0]
            seen[sort] = seen.get(sort, 0) + 1
        self.assertGreater(min(seen[None], seen["tie"], seen["arm"]), 50)

    def test_starts_that_differ_by_one_from_a_plan_that_fits(self):
        for seed in range(150):
            chance = random.Random(seed)
            loop, bench = samples.some_loop(seed), samples.some_bench(seed)
            pace, starts = serial(loop, bench)
            for shorter in (pace, max(1, pace - 1)):
                place = chance.randrange(len(starts))
                for change in (-1, 1):
                    moved = list(starts)
                    moved[place] = max(0, moved[place] + change)
                    met = fault(loop, bench, shorter, moved)
                    self.assertEqual(met, fault_by_ticks(loop, bench, shorter, moved), seed)


class Refused(unittest.TestCase):
    def refused(self, kind, loop, bench, pace, starts):
        handed = copy.deepcopy(starts)
        with self.assertRaises(kind) as caught:
            fault(loop, bench, pace, handed)
        self.assertIs(type(caught.exception), kind)
        self.assertEqual(handed, starts)

    def test_paces(self):
        for pace in (1, 2, 199, 200):
            self.assertIsNone(fault(lone(1), bench_of(), pace, [0]))
        for pace in (0, -1, -200, 201, 202, GREAT, -GREAT, 10 ** 5000):
            self.refused(BadPlan, lone(1), bench_of(), pace, [0])

    def test_starts(self):
        for start in (0, 1, 1999, 2000):
            self.assertIsNone(fault(lone(1), bench_of(), 7, [start]))
        for start in (-1, -2000, 2001, 2002, GREAT, -GREAT, 10 ** 5000):
            self.refused(BadPlan, lone(1), bench_of(), 7, [start])
            self.refused(BadPlan, lone(3), bench_of(), 7, [start, 1, 2])
            self.refused(BadPlan, lone(3), bench_of(), 7, [0, 1, start])

    def test_lengths(self):
        for count in (1, 2, 12):
            starts = list(range(count))
            self.assertIsNone(fault(lone(count), bench_of(), 20, starts))
            self.refused(BadPlan, lone(count), bench_of(), 20, starts[:-1])
            self.refused(BadPlan, lone(count), bench_of(), 20, starts + [count])
            self.refused(BadPlan, lone(count), bench_of(), 20, [])

    def test_lengths_where_there_are_ties(self):
        for starts in ([], [0], [0, 1], [0, 1, 5, 6], [0, 1, 5, 0]):
            self.refused(BadPlan, CHAIN, CHAIN_BENCH, 7, starts)

    def test_bad_plans_come_ahead_of_faults(self):
        self.refused(BadPlan, CHAIN, CHAIN_BENCH, 0, [0, 0, 0])
        self.refused(BadPlan, CHAIN, CHAIN_BENCH, 1, [0, 0, 2001])
        self.refused(BadPlan, CHAIN, CHAIN_BENCH, 1, [0, 0])

    def test_no_arm_comes_ahead_of_bad_plans(self):
        for word in WORDS:
            bench = samples.bench_without(word)
            loop = Loop(97, EACH)
            for pace, starts in ((1, [0] * 12), (0, [0] * 12), (201, [0] * 12), (1, []), (1, [-1] * 12), (0, [2001])):
                self.refused(NoArm, loop, bench, pace, starts)
            self.refused(NoArm, Loop(97, [("a", word, (1,) * samples.WANTS[word])]), bench, 0, [])

    def test_an_arm_at_which_no_row_stands_is_never_overfull(self):
        bench = Bench([("idle", 1), ("a", 1)], [("sum", "idle", 6, 6), ("same", "a", 1, 1)])
        self.assertIsNone(fault(lone(2), bench, 2, [0, 1]))


class Serial(unittest.TestCase):
    def test_one_row(self):
        for delay in range(1, 7):
            for hold in range(1, 7):
                bench = bench_of(delay=delay, hold=hold)
                self.assertEqual(serial(lone(1), bench), (max(delay, hold), [0]))
                self.assertIsNone(fault(lone(1), bench, max(delay, hold), [0]))

    def test_delays_above_holds_and_holds_above_delays(self):
        self.assertEqual(serial(CHAIN, CHAIN_BENCH), (7, [0, 1, 5]))
        bench = Bench([("a", 1)], [("take", "a", 2, 5), ("times", "a", 6, 1), ("sum", "a", 3, 3)])
        self.assertEqual(serial(CHAIN, bench), (14, [0, 5, 11]))

    def test_twelve_rows(self):
        self.assertEqual(serial(lone(12), bench_of(delay=6, hold=1)), (72, list(range(0, 72, 6))))
        self.assertEqual(serial(lone(12), bench_of(delay=1, hold=6)), (72, list(range(0, 72, 6))))
        works = [(word, "a", 1 + place % 6, 1 + place // 2) for place, word in enumerate(WORDS)]
        # The greater of delay and hold, in the order of WORDS: 1 2 3 4 5 6 4 4 5.
        wanted = [0, 5, 10, 11, 13, 16, 20, 25, 31, 35, 39, 40]
        self.assertEqual(serial(Loop(97, EACH), Bench([("a", 1)], works)), (44, wanted))

    def test_it_always_fits(self):
        for seed in range(300):
            loop, bench = samples.some_loop(seed), samples.some_bench(seed)
            pace, starts = serial(loop, bench)
            self.assertIsNone(fault(loop, bench, pace, starts), seed)
            self.assertIsNone(fault_by_ticks(loop, bench, pace, starts), seed)
            spans = [max(bench.work(row[1])[1:]) for row in loop.rows()]
            self.assertEqual((pace, starts), (sum(spans), [sum(spans[:place]) for place in range(len(spans))]), seed)

    def test_refused_where_a_deed_has_no_work(self):
        for word in WORDS:
            bench = samples.bench_without(word)
            for rows in (EACH, [("a", word, (1,) * samples.WANTS[word])]):
                with self.assertRaises(NoArm) as caught:
                    serial(Loop(97, rows), bench)
                self.assertIs(type(caught.exception), NoArm)


class WhoseItIs(unittest.TestCase):
    def test_what_is_handed_in_is_not_changed(self):
        for starts in ([0, 1, 5], [0, 0, 5], [2, 3, 2000], [5, 1, 0]):
            handed = list(starts)
            fault(CHAIN, CHAIN_BENCH, 2, handed)
            self.assertEqual(handed, starts)
        self.assertEqual(CHAIN_BENCH.arms(), ["door", "multer", "adder"])
        self.assertEqual(len(CHAIN.rows()), 3)

    def test_what_serial_told_is_the_askers_own(self):
        pace, starts = serial(CHAIN, CHAIN_BENCH)
        starts[0] = 9
        starts.append(4)
        self.assertEqual(serial(CHAIN, CHAIN_BENCH), (7, [0, 1, 5]))

    def test_kinds(self):
        self.assertIs(type(serial(CHAIN, CHAIN_BENCH)), tuple)
        self.assertEqual([type(part) for part in serial(CHAIN, CHAIN_BENCH)], [int, list])
        self.assertEqual([type(part) for part in fault(CHAIN, CHAIN_BENCH, 1, [0, 0, 0])], [str, int])
        self.assertIs(type(fault(CHAIN, CHAIN_BENCH, 1, [0, 0, 0])), tuple)
        self.assertEqual([type(part) for part in fault(lone(2), bench_of(), 1, [0, 0])], [str, str, int])
        self.assertIs(type(fault(lone(2), bench_of(), 1, [0, 0])), tuple)


if __name__ == "__main__":
    unittest.main()
