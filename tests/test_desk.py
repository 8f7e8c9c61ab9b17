"""Points 2, 3 and 34: worked."""

import copy
import unittest

import grounds
import samples
from lapwork.desk import worked
from lapwork.errors import (
    BadArms, BadDelay, BadRows, BadText, BadTurns, BadWidth, LapError, NoArm, NoDeed, NoMeasure, Short,
)
from lapwork.loops import Loop
from lapwork.machine import laid
from lapwork.meaning import outcome
from lapwork.planner import planned
from lapwork.plans import serial
from lapwork.texts import bench_shown, loop_shown
from samples import EACH, GREAT

LOOP_TEXT = "measure 1000\nx = take\nacc = sum acc@1 x\nout = tell acc"
BENCH_TEXT = "arm door 1\narm adder 2\nwork take door 1 1\nwork sum adder 3 2\nwork tell door 1 1"
FEEDS = {"x": [5, 7, 990]}
BEGIN = {"acc": [100]}


class Worked(unittest.TestCase):
    def test_by_hand(self):
        told = worked(LOOP_TEXT, BENCH_TEXT, 3, FEEDS, BEGIN)
        self.assertEqual(told, (3, [("out", [105, 112, 102])], [("acc", [102])]))
        self.assertEqual([type(part) for part in told], [int, list, list])
        self.assertIs(type(told), tuple)

    def test_no_turn_and_one(self):
        self.assertEqual(worked(LOOP_TEXT, BENCH_TEXT, 0, {}, {"acc": [-1]}), (3, [("out", [])], [("acc", [999])]))
        self.assertEqual(worked(LOOP_TEXT, BENCH_TEXT, 1, {"x": [4]}, {"acc": [-1]}), (3, [("out", [3])], [("acc", [3])]))

    def check(self, loop, bench, turns, seed):
        feeds, begin = samples.some_run(seed, loop, turns)
        pace, told, ends = worked(loop_shown(loop), bench_shown(bench), turns, feeds, begin)
        plan = planned(loop, bench)
        self.assertEqual(pace, plan[0])
        self.assertLessEqual(pace, serial(loop, bench)[0])
        self.assertEqual((told, ends), outcome(loop, turns, feeds, begin))
        self.assertEqual((told, ends), laid(loop, bench, plan[0], plan[1], turns, feeds, begin))
        self.assertEqual((told, ends), samples.meant_outcome(loop.measure, loop.rows(), turns, feeds, begin))

    def test_some(self):
        for seed in range(60):
            for turns in (0, 1, 4, 30):
                self.check(samples.some_loop(seed), samples.some_bench(seed), turns, seed)
        for seed in range(20):
            loop, bench = grounds.tight(seed, 1, 8)
            self.check(loop, bench, 12, seed)

    def test_many_turns(self):
        self.check(Loop(97, EACH), samples.some_bench(4), 300, 1)

    def test_a_run_cut_in_two(self):
        loop, bench = Loop(97, EACH), samples.some_bench(4)
        feeds, begin = samples.some_run(1, loop, 20)
        texts = (loop_shown(loop), bench_shown(bench))
        whole = worked(*texts, 20, feeds, begin)
        first = worked(*texts, 8, feeds, begin)
        rest = {name: numbers[8:] for name, numbers in feeds.items()}
        second = worked(*texts, 12, rest, dict(first[2]))
        joined = [(name, made + more) for (name, made), (other, more) in zip(first[1], second[1])]
        self.assertEqual((second[0], joined, second[2]), whole)

    def test_handed_in_and_told(self):
        feeds, begin = copy.deepcopy((FEEDS, BEGIN))
        first = worked(LOOP_TEXT, BENCH_TEXT, 3, feeds, begin)
        kept = copy.deepcopy(first)
        self.assertEqual((feeds, begin), (FEEDS, BEGIN))
        feeds["x"][0] = begin["acc"][0] = 1
        self.assertEqual(first, kept)
        first[1][0][1].append(1)
        first[2].clear()
        self.assertEqual(worked(LOOP_TEXT, BENCH_TEXT, 3, FEEDS, BEGIN), kept)


class Refused(unittest.TestCase):
    def refused(self, kind, *handed):
        with self.assertRaises(LapError) as caught:
            worked(*handed)
        self.assertIs(type(caught.exception), kind)
        return caught.exception

    def test_the_loop_ahead_of_the_bench(self):
        for bench_text in (BENCH_TEXT, "", "arm a 5", "arm a 1"):
            for turns in (3, 301):
                self.assertEqual(self.refused(BadText, LOOP_TEXT + "\n", bench_text, turns, {}, {}).row, 4)
                self.assertEqual(self.refused(BadText, "", bench_text, turns, {}, {}).row, 0)
                self.refused(NoMeasure, "measure 1", bench_text, turns, {}, {})
                self.refused(BadRows, "measure 7", bench_text, turns, {}, {})
                self.refused(NoDeed, "measure 7\na = nothing", bench_text, turns, {}, {})

    def test_the_bench_ahead_of_no_arm(self):
        for turns in (3, 301):
            self.assertEqual(self.refused(BadText, LOOP_TEXT, "arm a 1\narm a 1\n", turns, {}, {}).row, 2)
            self.assertEqual(self.refused(BadText, LOOP_TEXT, "", turns, {}, {}).row, 0)
            self.refused(BadWidth, LOOP_TEXT, "arm a 5", turns, {}, {})
            self.refused(BadArms, LOOP_TEXT, "work sum a 1 1", turns, {}, {})
            self.refused(BadDelay, LOOP_TEXT, "arm a 1\nwork pick a 7 1", turns, {}, {})
            self.refused(NoArm, LOOP_TEXT, "arm a 1\nwork take b 1 1", turns, {}, {})

    def test_no_arm_ahead_of_turns(self):
        for bench_text in ("arm a 1", "arm a 1\nwork take a 1 1\nwork tell a 1 1", "arm a 1\nwork pick a 1 1"):
            for turns in (-1, 3, 301):
                self.refused(NoArm, LOOP_TEXT, bench_text, turns, {}, {})

    def test_turns_ahead_of_short(self):
        for turns in (-GREAT, -1, 301, GREAT):
            self.refused(BadTurns, LOOP_TEXT, BENCH_TEXT, turns, {}, {})
            self.refused(BadTurns, LOOP_TEXT, BENCH_TEXT, turns, {"x": [1] * 400}, BEGIN)
        feeds = {"x": list(range(300))}
        loop = Loop(1000, [("x", "take", ()), ("acc", "sum", (("acc", 1), ("x", 0))), ("out", "tell", (("acc", 0),))])
        self.assertEqual(worked(LOOP_TEXT, BENCH_TEXT, 300, feeds, BEGIN)[1:], outcome(loop, 300, feeds, BEGIN))

    def test_feeds_ahead_of_begin(self):
        self.assertEqual(self.refused(Short, LOOP_TEXT, BENCH_TEXT, 3, {}, {}).name, "x")
        self.assertEqual(self.refused(Short, LOOP_TEXT, BENCH_TEXT, 3, {"x": [1, 2]}, BEGIN).name, "x")
        self.assertEqual(self.refused(Short, LOOP_TEXT, BENCH_TEXT, 3, FEEDS, {}).name, "acc")
        self.assertEqual(self.refused(Short, LOOP_TEXT, BENCH_TEXT, 0, {}, {"x": [1]}).name, "acc")


if __name__ == "__main__":
    unittest.main()
