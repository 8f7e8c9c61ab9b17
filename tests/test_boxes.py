"""Points 2, 3 and 24: lives and rings."""

import unittest

import plannings
import samples
from lapwork.benches import Bench
from lapwork.boxes import lives, rings
from lapwork.errors import BadPlan, NoArm, Unfit
from lapwork.loops import Loop
from lapwork.plans import fault
from samples import EACH, GREAT, WORDS, bench_of, bench_without

# x is read by two rows, a by itself and by a later row, late by a row above, out and idle by none.
LOOP = Loop(97, [
    ("x", "take", ()),
    ("a", "pick", (("a", 1), ("x", 0), ("late", 3))),
    ("out", "tell", (("a", 0),)),
    ("late", "sum", (("x", 2), ("a", 0))),
    ("idle", "same", (5,)),
])
BENCH = Bench(
    [("door", 2), ("desk", 4)],
    [("take", "door", 1, 1), ("pick", "desk", 3, 1), ("tell", "door", 1, 1), ("sum", "desk", 2, 2), ("same", "door", 6, 1)],
)


def one_reader(back):
    return Loop(97, [("x", "take", ()), ("a", "same", (("x", back),))])


class ByHand(unittest.TestCase):
    def test_all_sorts_of_reads(self):
        starts = [0, 1, 4, 4, 9]
        self.assertIsNone(fault(LOOP, BENCH, 3, starts))
        # x is read by a in tick 1 and by late in 4 + 2 * 3; a by itself in 1 + 3, by out and late in 4; late in 1 + 9.
        self.assertEqual(lives(LOOP, BENCH, 3, starts), [(1, 10), (4, 4), (5, None), (6, 10), (15, None)])
        self.assertEqual(rings(LOOP, BENCH, 3, starts), [4, 1, 1, 3, 1])
        starts = [7, 20, 2000, 23, 0]
        self.assertIsNone(fault(LOOP, BENCH, 5, starts))
        self.assertEqual(lives(LOOP, BENCH, 5, starts), [(8, 33), (23, 2000), (2001, None), (25, 35), (6, None)])
        self.assertEqual(rings(LOOP, BENCH, 5, starts), [6, 396, 1, 3, 1])

    def test_a_row_that_none_reads(self):
        for start in (0, 1, 2000):
            for delay in range(1, 7):
                loop = Loop(97, [("a", "same", (1,))])
                self.assertEqual(lives(loop, bench_of(delay), 4, [start]), [(start + delay, None)])
                self.assertEqual(rings(loop, bench_of(delay), 4, [start]), [1])

    def test_a_row_that_reads_itself(self):
        for back in range(1, 7):
            loop = Loop(97, [("a", "same", (("a", back),))])
            for delay in range(1, 7):
                for pace in range(-(-delay // back), 9):
                    for start in (0, 3, 2000):
                        told = lives(loop, bench_of(delay), pace, [start])
                        self.assertEqual(told, [(start + delay, start + pace * back)])
                        # The delay takes some of the turns, so that back boxes will always do.
                        self.assertEqual(rings(loop, bench_of(delay), pace, [start]), [back])

    def test_the_last_of_several_readers(self):
        rows = [("x", "take", ())] + [(name, "same", (("x", 0),)) for name in "abc"]
        for starts in ([0, 9, 2, 5], [0, 2, 9, 5], [0, 2, 5, 9]):
            self.assertEqual(lives(Loop(97, rows), bench_of(width=4), 3, starts)[0], (1, 9))
            self.assertEqual(rings(Loop(97, rows), bench_of(width=4), 3, starts), [3, 1, 1, 1])

    def test_the_last_may_be_of_the_lesser_back(self):
        rows = [("x", "take", ()), ("a", "same", (("x", 3),)), ("b", "same", (("x", 0),))]
        self.assertEqual(lives(Loop(97, rows), bench_of(width=4), 2, [0, 0, 50])[0], (1, 50))
        self.assertEqual(rings(Loop(97, rows), bench_of(width=4), 2, [0, 0, 50]), [25, 1, 1])
        self.assertEqual(lives(Loop(97, rows), bench_of(width=4), 20, [0, 0, 50])[0], (1, 60))
        self.assertEqual(rings(Loop(97, rows), bench_of(width=4), 20, [0, 0, 50]), [3, 1, 1])

    def test_one_row_that_reads_another_twice(self):
        rows = [("x", "take", ()), ("a", "sum", (("x", 2), ("x", 1)))]
        self.assertEqual(lives(Loop(97, rows), bench_of(width=2), 4, [3, 4]), [(4, 12), (5, None)])


class AroundAMultipleOfThePace(unittest.TestCase):
    def test_ahead_of_it_at_it_and_behind_it(self):
        for pace in (1, 2, 3, 7, 200):
            for times in range(4):
                for off in (-1, 0, 1):
                    far = pace * times + off
                    if far < 0:
                        continue
                    # What lands in tick 1 is read in tick 1 + far.
                    told = rings(one_reader(0), bench_of(width=4), pace, [0, 1 + far])
                    boxes = 1
                    while pace * boxes <= far:
                        boxes += 1
                    self.assertEqual(told, [boxes, 1], (pace, far))

    def test_by_hand(self):
        for last, boxes in ((1, 1), (2, 1), (3, 1), (4, 2), (5, 2), (6, 2), (7, 3), (8, 3), (9, 3), (10, 4)):
            self.assertEqual(lives(one_reader(0), bench_of(width=4), 3, [0, last])[0], (1, last))
            self.assertEqual(rings(one_reader(0), bench_of(width=4), 3, [0, last])[0], boxes)


class DeepestAboveTheTicks(unittest.TestCase):
    def test_it_is_taken(self):
        for back in range(1, 7):
            for delay in range(1, 7):
                # Read as soon as it has landed: by the ticks one box would do.
                start = 20 + delay - 3 * back
                told = lives(one_reader(back), bench_of(delay, width=4), 3, [20, start])
                self.assertEqual(told[0], (20 + delay, 20 + delay))
                self.assertEqual(rings(one_reader(back), bench_of(delay, width=4), 3, [20, start]), [back, 1])

    def test_above_at_and_below_what_the_ticks_ask(self):
        # Of a row read from two turns back, by the ticks 1, 2, 3 and 4 boxes.
        for start, boxes in ((0, 2), (4, 2), (5, 2), (9, 2), (10, 3), (14, 3), (15, 4)):
            told = rings(one_reader(2), bench_of(delay=1, width=4), 5, [9, start])
            self.assertEqual(told, [boxes, 1], start)


class AgainstTheTicks(unittest.TestCase):
    """Boxes by turn, walked tick by tick: all that is read is there, and one box fewer would not do."""

    def lives_by_reads(self, loop, bench, pace, starts):
        found = []
        for number, row in enumerate(loop.rows()):
            reads = [starts[reader] + pace * read[1] for reader, other in enumerate(loop.rows())
                     for read in other[2] if isinstance(read, tuple) and read[0] == row[0]]
            found.append((starts[number] + bench.work(row[1])[1], max(reads, default=None)))
        return found

    def overwritten(self, life, size, pace):
        """Whether what lands size turns later lands ahead of the last read, so that this one misses its number."""
        land, last = life
        return last is not None and land + size * pace <= last

    def check(self, loop, bench, pace, starts):
        told = lives(loop, bench, pace, starts)
        self.assertEqual(told, self.lives_by_reads(loop, bench, pace, starts))
        sizes = rings(loop, bench, pace, starts)
        depths = samples.deepest_of(loop.rows())
        for row, life, size in zip(loop.rows(), told, sizes):
            self.assertGreaterEqual(size, max(1, depths[row[0]]))
            self.assertFalse(self.overwritten(life, size, pace))
            if size > max(1, depths[row[0]]):
                self.assertTrue(self.overwritten(life, size - 1, pace))

    def test_every_plan(self):
        for plans in (plannings.serial_plans(150), plannings.best_plans(150, 60), plannings.gapped_plans(100)):
            for each in plans:
                self.check(*each)


class Refused(unittest.TestCase):
    def refused(self, kind, loop, bench, pace, starts):
        for ask in (lives, rings):
            handed = list(starts)
            with self.assertRaises(kind) as caught:
                ask(loop, bench, pace, handed)
            self.assertIs(type(caught.exception), kind)
            self.assertEqual(handed, starts)

    def test_no_arm_ahead_of_all(self):
        for word in WORDS:
            bench = bench_without(word)
            for pace, starts in ((1, [0] * 12), (0, [0] * 12), (201, [0] * 12), (1, []), (1, [-1] * 12), (0, [2001])):
                self.refused(NoArm, Loop(97, EACH), bench, pace, starts)
            self.refused(NoArm, Loop(97, [("a", word, (1,) * samples.WANTS[word])]), bench, 1, [0])

    def test_bad_plans_ahead_of_unfit_ones(self):
        starts = [0, 1, 4, 4, 9]
        self.assertEqual(len(rings(LOOP, BENCH, 3, starts)), 5)
        for pace in (0, -1, 201, GREAT, -GREAT):
            self.refused(BadPlan, LOOP, BENCH, pace, starts)
            self.refused(BadPlan, LOOP, BENCH, pace, [0] * 5)
        for wrong in ([], starts[:-1], starts + [0], [-1] + starts[1:], starts[:-1] + [2001], [0, 0, 0, 0, -1], [0] * 6):
            self.refused(BadPlan, LOOP, BENCH, 3, wrong)

    def test_unfit_for_a_tie_and_for_an_arm(self):
        self.refused(Unfit, LOOP, BENCH, 3, [0, 0, 4, 4, 9])
        self.refused(Unfit, LOOP, BENCH, 2, [0, 1, 4, 4, 9])
        self.refused(Unfit, LOOP, BENCH, 3, [0, 1, 3, 4, 9])
        self.assertEqual(fault(LOOP, BENCH, 3, [0, 1, 6, 4, 9]), ("arm", "door", 0))
        self.refused(Unfit, LOOP, BENCH, 3, [0, 1, 6, 4, 9])
        self.refused(Unfit, Loop(97, [("a", "same", (1,))]), bench_of(hold=2), 1, [0])
        self.refused(Unfit, Loop(97, [("a", "same", (("a", 1),))]), bench_of(delay=2), 1, [0])

    def test_the_bounds_of_a_plan(self):
        self.assertEqual(rings(one_reader(0), bench_of(width=2), 1, [0, 2000]), [2000, 1])
        self.assertEqual(rings(one_reader(0), bench_of(width=2), 200, [0, 2000]), [10, 1])
        self.assertEqual(lives(one_reader(6), bench_of(6, width=2), 200, [0, 2000]), [(6, 3200), (2006, None)])


class WhoseItIs(unittest.TestCase):
    def test_what_is_handed_in_and_what_is_told(self):
        starts = [0, 1, 4, 4, 9]
        rows = LOOP.rows()
        for ask in (lives, rings):
            told = ask(LOOP, BENCH, 3, starts)
            kept = list(told)
            told.clear()
            self.assertEqual(ask(LOOP, BENCH, 3, starts), kept)
            self.assertEqual((starts, LOOP.rows(), BENCH.arms()), ([0, 1, 4, 4, 9], rows, ["door", "desk"]))
            handed = list(starts)
            told = ask(LOOP, BENCH, 3, handed)
            handed.clear()
            self.assertEqual(told, kept)

    def test_kinds(self):
        told = lives(LOOP, BENCH, 3, [0, 1, 4, 4, 9])
        self.assertIs(type(told), list)
        self.assertEqual([type(life) for life in told], [tuple] * 5)
        self.assertEqual([len(life) for life in told], [2] * 5)
        self.assertEqual([type(size) for size in rings(LOOP, BENCH, 3, [0, 1, 4, 4, 9])], [int] * 5)


if __name__ == "__main__":
    unittest.main()
