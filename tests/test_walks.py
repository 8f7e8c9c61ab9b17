"""Points 2, 3 and 25: walked."""

import copy
import random
import unittest

import grounds
import samples
from lapwork.benches import Bench
from lapwork.errors import BadPlan, BadTurns, NoArm, Short, Unfit
from lapwork.loops import Loop
from lapwork.meaning import table
from lapwork.planner import planned
from lapwork.plans import fault, serial
from lapwork.walks import walked
from samples import EACH, GREAT, TOP, WORDS, bench_of, bench_without

LOOP = Loop(100, [("x", "take", ()), ("acc", "sum", (("acc", 1), ("x", 0))), ("out", "less", (("x", 2), 130))])
BENCH = Bench([("door", 1), ("desk", 2)], [("take", "door", 1, 1), ("sum", "desk", 2, 1), ("less", "desk", 1, 2)])
FEEDS = {"x": [-5, 207, 50]}
BEGIN = {"x": [-1, 302], "acc": [1099]}


class ByHand(unittest.TestCase):
    def test_ticks_rows_and_numbers(self):
        self.assertIsNone(fault(LOOP, BENCH, 2, [0, 1, 0]))
        # acc begins in the ticks between; x and out begin in one tick, x first.
        self.assertEqual(walked(LOOP, BENCH, 2, [0, 1, 0], 3, FEEDS, BEGIN), [
            (0, "x", 0, [-5], 95), (0, "out", 0, [2, 130], 72), (1, "acc", 0, [99, 95], 94),
            (2, "x", 1, [207], 7), (2, "out", 1, [99, 130], 69), (3, "acc", 1, [94, 7], 1),
            (4, "x", 2, [50], 50), (4, "out", 2, [95, 130], 65), (5, "acc", 2, [1, 50], 51),
        ])

    def test_turns_laid_over_one_another(self):
        self.assertIsNone(fault(LOOP, BENCH, 2, [2, 7, 0]))
        self.assertEqual(walked(LOOP, BENCH, 2, [2, 7, 0], 3, FEEDS, BEGIN), [
            (0, "out", 0, [2, 130], 72), (2, "x", 0, [-5], 95), (2, "out", 1, [99, 130], 69), (4, "x", 1, [207], 7),
            (4, "out", 2, [95, 130], 65), (6, "x", 2, [50], 50), (7, "acc", 0, [99, 95], 94),
            (9, "acc", 1, [94, 7], 1), (11, "acc", 2, [1, 50], 51),
        ])

    def test_one_tick_in_the_order_of_rows_and_not_of_turns(self):
        rows = [("c", "same", (1,)), ("b", "same", (2,)), ("a", "same", (3,))]
        steps = walked(Loop(9, rows), bench_of(width=3), 1, [2, 1, 0], 4, {}, {})
        self.assertEqual([step[:3] for step in steps], [
            (0, "a", 0), (1, "b", 0), (1, "a", 1), (2, "c", 0), (2, "b", 1), (2, "a", 2), (3, "c", 1), (3, "b", 2),
            (3, "a", 3), (4, "c", 2), (4, "b", 3), (5, "c", 3),
        ])

    def test_no_turns(self):
        self.assertEqual(walked(LOOP, BENCH, 2, [0, 1, 0], 0, {}, BEGIN), [])
        self.assertEqual(walked(Loop(9, [("a", "take", ())]), bench_of(), 1, [5], 0, {}, {}), [])

    def test_one_turn(self):
        self.assertEqual(walked(LOOP, BENCH, 200, [7, 2000, 9], 1, {"x": [-5]}, BEGIN), [
            (7, "x", 0, [-5], 95), (9, "out", 0, [2, 130], 72), (2000, "acc", 0, [99, 95], 94),
        ])

    def test_fewer_turns_than_a_row_is_read_back(self):
        loop = Loop(100, [("x", "take", ()), ("out", "tell", (("x", 6),))])
        begin = {"x": [-1, 2, 3, 4, 5, 106]}
        steps = walked(loop, bench_of(width=2), 1, [0, 3], 2, {"x": [111, 222]}, begin)
        self.assertEqual(steps, [
            (0, "x", 0, [111], 11), (1, "x", 1, [222], 22), (3, "out", 0, [6], 6), (4, "out", 1, [5], 5),
        ])
        feeds = {"x": [111, 222, 333, 444, 555, 666, 777, 888]}
        steps = walked(loop, bench_of(width=2), 1, [0, 0], 8, feeds, begin)
        numbers = [step[3] for step in steps if step[1] == "out"]
        self.assertEqual(numbers, [[6], [5], [4], [3], [2], [99], [11], [22]])

    def test_numbers_of_each_sort(self):
        # A number is read as it stands, also where it is above the measure; so is a feed, of either sign.
        rows = [("x", "take", ()), ("a", "pick", (TOP, ("x", 0), ("a", 1))), ("b", "least", (25, ("a", 0)))]
        steps = walked(Loop(10, rows), bench_of(width=4), 4, [0, 1, 2], 1, {"x": [-TOP]}, {"a": [-TOP]})
        self.assertEqual(steps, [
            (0, "x", 0, [-TOP], 1), (1, "a", 0, [TOP, 1, 1], 1), (2, "b", 0, [25, 1], 1),
        ])
        steps = walked(Loop(GREAT, [("x", "take", ())]), bench_of(), 1, [0], 2, {"x": [-1, TOP]}, {})
        self.assertEqual(steps, [(0, "x", 0, [-1], TOP), (1, "x", 1, [TOP], TOP)])


class AgainstTheTicks(unittest.TestCase):
    """A bench walked tick by tick, on which only what has landed can be read."""

    def walked_by_ticks(self, loop, bench, pace, starts, turns, feeds, begin):
        landed, due, steps = {}, {}, []
        for name, depth in samples.deepest_of(loop.rows()).items():
            for back in range(1, depth + 1):
                landed[name, -back] = begin[name][back - 1] % loop.measure
        for tick in range(max(starts) + pace * turns + 1):
            landed.update(due.pop(tick, {}))
            for (name, word, reads), start in zip(loop.rows(), starts):
                turn, off = divmod(tick - start, pace)
                if off == 0 and 0 <= turn < turns:
                    numbers = [read if isinstance(read, int) else landed[read[0], turn - read[1]] for read in reads]
                    numbers = [feeds[name][turn]] if word == "take" else numbers
                    made = samples.rest_made(word, numbers, loop.measure)
                    steps.append((tick, name, turn, numbers, made))
                    due.setdefault(tick + bench.work(word)[1], {})[name, turn] = made
        return steps

    def check(self, loop, bench, pace, starts, turns, seed):
        feeds, begin = samples.some_run(seed, loop, turns)
        steps = walked(loop, bench, pace, starts, turns, feeds, begin)
        self.assertEqual(steps, self.walked_by_ticks(loop, bench, pace, starts, turns, feeds, begin), seed)
        self.assertEqual(len(steps), len(starts) * turns)
        for name, made in table(loop, turns, feeds, begin):
            mine = sorted([(step[2], step[4]) for step in steps if step[1] == name])
            self.assertEqual(mine, list(enumerate(made)))

    def test_serial_plans(self):
        for seed in range(80):
            loop, bench = samples.some_loop(seed), samples.some_bench(seed)
            for turns in (0, 1, 2, 5, 9):
                self.check(loop, bench, *serial(loop, bench), turns, seed)

    def test_plans_of_the_planner(self):
        for seed in range(80):
            loop, bench = samples.some_loop(seed), samples.some_bench(seed)
            pace, starts, told = planned(loop, bench)
            for turns in (0, 1, 3, 12):
                self.check(loop, bench, pace, starts, turns, seed)
            loop, bench = grounds.tight(seed, 1, 8)
            pace, starts, told = planned(loop, bench)
            self.check(loop, bench, pace, starts, 7, seed)

    def test_starts_that_are_far_apart(self):
        for seed in range(60):
            chance = random.Random(seed)
            loop, bench = samples.some_loop(seed, chance.randint(1, 6)), samples.some_bench(seed)
            pace, starts = serial(loop, bench)
            starts = [start + pace * chance.randint(place, place + 1) for place, start in enumerate(starts)]
            if fault(loop, bench, pace, starts) is None:
                self.check(loop, bench, pace, starts, 8, seed)

    def test_twelve_rows_and_three_hundred_turns(self):
        loop, bench = Loop(10 ** 9 + 7, EACH), bench_of(delay=2, width=4)
        pace, starts, told = planned(loop, bench)
        self.check(loop, bench, pace, starts, 300, 5)


class Refused(unittest.TestCase):
    fine = (2, [0, 1, 0], 3, FEEDS, BEGIN)

    def refused(self, kind, loop, bench, pace, starts, turns, feeds, begin):
        handed = copy.deepcopy((starts, feeds, begin))
        with self.assertRaises(kind) as caught:
            walked(loop, bench, pace, handed[0], turns, handed[1], handed[2])
        self.assertIs(type(caught.exception), kind)
        self.assertEqual(handed, (starts, feeds, begin))
        return caught.exception

    def test_nothing_is_refused_of_what_is_fine(self):
        self.assertEqual(len(walked(LOOP, BENCH, *self.fine)), 9)

    def test_no_arm_ahead_of_all(self):
        bare = Bench([("door", 1)], [("take", "door", 1, 1), ("sum", "door", 1, 1)])
        self.refused(NoArm, LOOP, bare, *self.fine)
        self.refused(NoArm, LOOP, bare, 0, [], -1, {}, {})
        for word in WORDS:
            self.refused(NoArm, Loop(97, EACH), bench_without(word), 1, [0] * 12, 1, {}, {})

    def test_bad_plans_ahead_of_unfit_ones_and_of_runs(self):
        for pace, starts in ((0, [0, 1, 0]), (201, [0, 1, 0]), (2, [0, 1]), (2, [0, 1, 0, 0]), (2, [0, 1, -1]),
                             (2, [2001, 1, 0]), (0, [0, 0, 0]), (1, [0, 0, 2001]), (2, [])):
            self.refused(BadPlan, LOOP, BENCH, pace, starts, 3, FEEDS, BEGIN)
            self.refused(BadPlan, LOOP, BENCH, pace, starts, 301, {}, {})

    def test_unfit_ones_ahead_of_runs(self):
        for pace, starts in ((2, [0, 0, 0]), (1, [0, 1, 0]), (2, [1, 1, 0])):
            self.refused(Unfit, LOOP, BENCH, pace, starts, 3, FEEDS, BEGIN)
            self.refused(Unfit, LOOP, BENCH, pace, starts, -1, {}, {})
            self.refused(Unfit, LOOP, BENCH, pace, starts, 301, {}, {})
            self.refused(Unfit, LOOP, BENCH, pace, starts, 3, {}, {})
        self.assertEqual(fault(LOOP, BENCH, 1, [0, 1, 0]), ("tie", 0))
        crowd = Bench([("one", 1)], [("take", "one", 1, 1), ("sum", "one", 1, 1), ("less", "one", 1, 1)])
        self.assertEqual(fault(LOOP, crowd, 3, [0, 1, 3]), ("arm", "one", 0))
        self.refused(Unfit, LOOP, crowd, 3, [0, 1, 3], 3, FEEDS, BEGIN)

    def test_bad_turns_ahead_of_short_lists(self):
        for turns in (-1, -300, 301, 302, GREAT, -GREAT):
            self.refused(BadTurns, LOOP, BENCH, 2, [0, 1, 0], turns, FEEDS, BEGIN)
            self.refused(BadTurns, LOOP, BENCH, 2, [0, 1, 0], turns, {}, {})
        feeds = {"x": list(range(300))}
        self.assertEqual(len(walked(LOOP, BENCH, 2, [0, 1, 0], 300, feeds, BEGIN)), 900)

    def short(self, name, loop, turns, feeds, begin):
        pace, starts = serial(loop, bench_of())
        error = self.refused(Short, loop, bench_of(), pace, starts, turns, feeds, begin)
        self.assertEqual(error.name, name)

    def test_feeds_ahead_of_begin_and_rows_in_order(self):
        rows = [("a", "same", (("b", 1),)), ("u", "take", ()), ("b", "same", (("a", 2),)), ("v", "take", ())]
        loop = Loop(97, rows)
        feeds, begin = {"u": [1, 2], "v": [3, 4]}, {"a": [5, 6], "b": [7]}
        self.short("u", loop, 2, {}, {})
        self.short("u", loop, 2, {"u": [1], "v": [3]}, begin)
        self.short("v", loop, 2, {"u": [1, 2], "v": [3]}, {})
        self.short("v", loop, 1, {"u": [1, 2], "v": []}, begin)
        self.short("a", loop, 2, feeds, {})
        self.short("a", loop, 2, feeds, {"a": [5], "b": []})
        self.short("b", loop, 2, feeds, {"a": [5, 6], "b": []})
        self.short("a", loop, 0, {}, {"b": [7]})
        self.assertEqual(walked(loop, bench_of(), 4, [0, 1, 2, 3], 0, {}, begin), [])
        self.assertEqual(len(walked(loop, bench_of(), 4, [0, 1, 2, 3], 2, feeds, begin)), 8)


class WhoseItIs(unittest.TestCase):
    def test_what_is_handed_in_is_not_changed(self):
        starts, feeds, begin = [0, 1, 0], copy.deepcopy(FEEDS), copy.deepcopy(BEGIN)
        rows = LOOP.rows()
        for turns in (0, 1, 3):
            walked(LOOP, BENCH, 2, starts, turns, feeds, begin)
            self.assertEqual((starts, feeds, begin, LOOP.rows()), ([0, 1, 0], FEEDS, BEGIN, rows))

    def test_what_is_told_is_the_askers_own(self):
        starts, feeds, begin = [0, 1, 0], copy.deepcopy(FEEDS), copy.deepcopy(BEGIN)
        told = walked(LOOP, BENCH, 2, starts, 3, feeds, begin)
        kept = copy.deepcopy(told)
        for step in told:
            step[3].append(7)
            step[3][0] = 8
        told.clear()
        self.assertEqual((starts, feeds, begin), ([0, 1, 0], FEEDS, BEGIN))
        again = walked(LOOP, BENCH, 2, starts, 3, feeds, begin)
        self.assertEqual(again, kept)
        feeds["x"][0] = 9
        begin.clear()
        starts.clear()
        self.assertEqual(again, kept)

    def test_longer_lists_and_other_names_are_not_looked_at(self):
        feeds = {"x": FEEDS["x"] + [1, 2], "acc": [], "none": [1]}
        begin = {"x": BEGIN["x"] + [9], "acc": BEGIN["acc"] + [8], "out": [], "none": []}
        wanted = walked(LOOP, BENCH, 2, [0, 1, 0], 3, FEEDS, BEGIN)
        self.assertEqual(walked(LOOP, BENCH, 2, [0, 1, 0], 3, feeds, begin), wanted)

    def test_kinds(self):
        told = walked(LOOP, BENCH, 2, [0, 1, 0], 3, FEEDS, BEGIN)
        self.assertIs(type(told), list)
        for step in told:
            self.assertIs(type(step), tuple)
            self.assertEqual([type(part) for part in step], [int, str, int, list, int])


if __name__ == "__main__":
    unittest.main()
