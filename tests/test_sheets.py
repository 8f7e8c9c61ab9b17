"""Points 2, 3, 26, 27 and 28: Sheet and sheet_of."""

import copy
import unittest

import flat
import plannings
import samples
from lapwork.benches import Bench
from lapwork.boxes import rings
from lapwork.errors import BadPlan, NoArm, Unfit
from lapwork.loops import Loop
from lapwork.planner import planned
from lapwork.plans import serial
from lapwork.sheets import Sheet, sheet_of
from samples import CHAIN, CHAIN_BENCH, EACH, TOP, WORDS, bench_of, bench_without

ADDED = Loop(1000, [
    ("x", "take", ()),
    ("acc", "sum", (("acc", 1), ("x", 0))),
    ("out", "tell", (("acc", 0),)),
])
ADDER = Bench([("door", 1), ("adder", 2)], [("take", "door", 1, 1), ("sum", "adder", 3, 2), ("tell", "door", 1, 1)])
# a is read by two turns back and by a late row, b by itself.
DEEP = Loop(97, [("a", "take", ()), ("b", "sum", (("a", 2), ("b", 1))), ("c", "tell", (("a", 0),))])


class SheetItself(unittest.TestCase):
    def test_it_keeps_what_is_handed_in(self):
        shorts, ahead, middle, tails = [[]], [[]], [[], []], [[], [[]]]
        sheet = Sheet(4, 2, 2, shorts, ahead, middle, tails)
        self.assertEqual(flat.fields(sheet), (4, 2, 2, [[]], [[]], [[], []], [[], [[]]]))
        for field, value in (("shorts", shorts), ("ahead", ahead), ("middle", middle), ("tails", tails)):
            self.assertEqual(getattr(sheet, field), value)

    def test_each_field_has_a_place_of_its_own(self):
        sheet = Sheet(1, 2, 3, "shorts", "ahead", "middle", "tails")
        self.assertEqual(flat.fields(sheet), (1, 2, 3, "shorts", "ahead", "middle", "tails"))

    def test_arguments_by_name(self):
        sheet = Sheet(tails=[5], middle=[4], ahead=[3], shorts=[2], stages=1, held=1, pace=9)
        self.assertEqual(flat.fields(sheet), (9, 1, 1, [2], [3], [4], [5]))


class ByHand(unittest.TestCase):
    def check(self, loop, bench, pace, starts, told):
        handed = list(starts)
        sheet = sheet_of(loop, bench, pace, handed)
        self.assertIs(type(sheet), Sheet)
        self.assertEqual(flat.fields(sheet), told)
        self.assertEqual(handed, starts)

    def test_one_row(self):
        step = ("same", 2, 0, [5], "a", 0)
        loop = Loop(97, [("a", "same", (5,))])
        self.check(loop, bench_of(2), 1, [0], (1, 1, 1, [], [], [[step]], [[]]))
        self.check(loop, bench_of(2), 3, [0], (3, 1, 1, [], [], [[step], [], []], [[]]))
        self.check(loop, bench_of(2), 3, [2], (3, 1, 1, [], [], [[], [], [step]], [[]]))

    def test_one_row_in_its_second_stage(self):
        step = ("same", 2, 0, [5], "a", 0)
        loop = Loop(97, [("a", "same", (5,))])
        told = (3, 1, 2, [[]], [[], [], []], [[step], [], []], [[[step], [], []]])
        self.check(loop, bench_of(2), 3, [3], told)

    def test_one_row_that_reads_itself_from_three_turns_back(self):
        steps = [("same", 1, turn, [("box", turn)], "a", turn) for turn in range(3)]
        loop = Loop(97, [("a", "same", (("a", 3),))])
        tails = [[], [[steps[0]]], [[steps[0]], [steps[1]]]]
        self.check(loop, bench_of(), 1, [0], (1, 3, 1, [], [], [[step] for step in steps], tails))

    def test_one_stage_and_held_one(self):
        x = ("take", 1, 0, [], "x", 0)
        acc = ("sum", 3, 1, [("box", 1), ("box", 0)], "acc", 0)
        out = ("tell", 1, 2, [("box", 1)], "out", 0)
        self.check(ADDED, ADDER, 5, [0, 1, 4], (5, 1, 1, [], [], [[x], [acc], [], [], [out]], [[]]))

    def test_two_stages_and_held_one(self):
        def x(turn):
            return ("take", 1, 0, [], "x", turn)

        def acc(turn):
            return ("sum", 3, 1, [("box", 1), ("box", 0)], "acc", turn)

        out = ("tell", 1, 2, [("box", 1)], "out", 0)
        told = (3, 1, 2, [[]], [[x(0)], [acc(0)], []], [[x(1)], [acc(1), out], []], [[[], [out], []]])
        self.check(ADDED, ADDER, 3, [0, 1, 4], told)

    def test_three_stages_and_held_three(self):
        # The boxes of a are 0 to 2, of b 3 to 5, of c 6 to 8; b reads a and itself from turns below nought at first.
        a = [("take", 1, box, [], "a", turn) for turn, box in enumerate((0, 1, 2, 0, 1))]
        b = [
            ("sum", 1, 3, [("box", 1), ("box", 5)], "b", 0), ("sum", 1, 4, [("box", 2), ("box", 3)], "b", 1),
            ("sum", 1, 5, [("box", 0), ("box", 4)], "b", 2), ("sum", 1, 3, [("box", 1), ("box", 5)], "b", 3),
            ("sum", 1, 4, [("box", 2), ("box", 3)], "b", 4),
        ]
        c = [("tell", 1, 6 + box, [("box", box)], "c", turn) for turn, box in enumerate((0, 1, 2, 0))]
        shorts = [[], [[a[0]], [b[0]], [], [], [], [c[0]]]]
        ahead = [[a[0]], [b[0]], [a[1]], [b[1]]]
        middle = [[a[2]], [b[2], c[0]], [a[3]], [b[3], c[1]], [a[4]], [b[4], c[2]]]
        tails = [
            [[], [c[0]], [], [c[1]]],
            [[a[2]], [b[2], c[0]], [], [c[1]], [], [c[2]]],
            [[a[2]], [b[2], c[0]], [a[3]], [b[3], c[1]], [], [c[2]], [], [c[3]]],
        ]
        self.check(DEEP, bench_of(width=4), 2, [0, 1, 5], (2, 3, 3, shorts, ahead, middle, tails))

    def test_reads_that_are_numbers(self):
        loop = Loop(97, [("a", "pick", (0, ("a", 1), TOP)), ("b", "less", (7, ("a", 0)))])
        a = ("pick", 2, 0, [0, ("box", 0), TOP], "a", 0)
        b = ("less", 1, 1, [7, ("box", 0)], "b", 0)
        bench = bench_of(others=[("pick", "arm", 2, 1)])
        self.check(loop, bench, 3, [0, 2], (3, 1, 1, [], [], [[a], [], [b]], [[]]))

    def test_a_row_that_reads_a_row_twice(self):
        loop = Loop(97, [("a", "times", (("a", 2), ("a", 2)))])
        steps = [("times", 1, turn, [("box", turn), ("box", turn)], "a", turn) for turn in range(2)]
        self.check(loop, bench_of(), 1, [0], (1, 2, 1, [], [], [[steps[0]], [steps[1]]], [[], [[steps[0]]]]))

    def test_the_rests_nought_and_pace_less_one(self):
        loop = Loop(97, [("a", "same", (1,)), ("b", "same", (2,)), ("c", "tell", (3,)), ("d", "tell", (4,))])

        def steps(turns):
            words = [("same", 1, 0, [1], "a"), ("same", 1, 1, [2], "b"), ("tell", 1, 2, [3], "c"), ("tell", 1, 3, [4], "d")]
            return [word + (turn,) for word, turn in zip(words, turns)]

        a, b, c, d = steps((0, 0, 0, 0))
        early = steps((1, 1, 1, 1))
        told = (4, 1, 2, [[]], [[a], [], [], [b]], [[early[0], c], [], [], [early[1], d]], [[[c], [], [], [d]]])
        self.check(loop, bench_of(width=4), 4, [0, 3, 4, 7], told)
        # In the order of rows in each tick, whichever began its first turn sooner.
        told = (4, 1, 2, [[]], [[c], [], [], [d]], [[a, early[2]], [], [], [b, early[3]]], [[[a], [], [], [b]]])
        self.check(loop, bench_of(width=4), 4, [4, 7, 0, 3], told)

    def test_later_rows_stand_behind_earlier_ones_also_where_they_begin_sooner(self):
        loop = Loop(97, [("z", "same", (("a", 1),)), ("a", "same", (1,))])
        sheet = sheet_of(loop, bench_of(width=2), 2, [2, 0])
        self.assertEqual([[step[4] for step in tick] for tick in sheet.middle], [["z", "a"], []] * 2)


class CountsOfParts(unittest.TestCase):
    def check(self, loop, bench, pace, starts):
        sheet = sheet_of(loop, bench, pace, starts)
        self.assertEqual(sheet.pace, pace)
        self.assertEqual(sheet.held, max(rings(loop, bench, pace, starts)))
        self.assertEqual(sheet.stages, max(starts) // pace + 1)
        self.assertEqual(len(sheet.shorts), sheet.stages - 1)
        self.assertEqual(len(sheet.tails), sheet.held)
        self.assertEqual(len(sheet.ahead), pace * (sheet.stages - 1))
        self.assertEqual(len(sheet.middle), pace * sheet.held)
        for n, part in enumerate(sheet.shorts):
            self.assertEqual(len(part), pace * (n + sheet.stages - 1) if n > 0 else 0)
        for r, part in enumerate(sheet.tails):
            self.assertEqual(len(part), pace * (sheet.stages + r - 1))

    def test_around_a_multiple_of_the_pace(self):
        loop = Loop(97, [("x", "take", ()), ("a", "same", (("x", 0),))])
        for pace in (1, 2, 5, 200):
            for times in range(4):
                for off in (-1, 0, 1):
                    start = pace * times + off
                    if start >= 1:
                        self.check(loop, bench_of(width=4), pace, [0, start])

    def test_starts_up_to_two_thousand(self):
        loop = Loop(97, [("x", "take", ()), ("a", "same", (("x", 0),))])
        self.check(loop, bench_of(width=4), 200, [0, 2000])
        self.check(loop, bench_of(width=4), 199, [1, 2000])
        self.check(loop, bench_of(width=4), 100, [1999, 2000])

    def test_held_by_the_deepest_of_a_row_and_by_its_life(self):
        for back in range(1, 7):
            loop = Loop(97, [("x", "take", ()), ("a", "same", (("x", back),))])
            # Read at once, so that the deepest alone asks for more boxes.
            self.assertEqual(sheet_of(loop, bench_of(width=4), 3, [20, 21 - 3 * back]).held, back)
            self.assertEqual(sheet_of(loop, bench_of(width=4), 3, [0, 31]).held, 11 + back)


class AgainstTheWords(unittest.TestCase):
    """Sheets put together tick by tick from the words of the points."""

    def check(self, loop, bench, pace, starts):
        sheet = sheet_of(loop, bench, pace, starts)
        self.assertEqual(flat.fields(sheet), flat.flat_fields(loop, bench, pace, starts))

    def test_every_plan(self):
        for plans in (plannings.serial_plans(60), plannings.best_plans(60, 40), plannings.gapped_plans(25)):
            for each in plans:
                self.check(*each)
        self.check(CHAIN, CHAIN_BENCH, *planned(CHAIN, CHAIN_BENCH)[:2])

    def test_every_row_and_turn_is_begun_once(self):
        loop, bench = Loop(97, EACH), samples.some_bench(5)
        pace, starts = planned(loop, bench)[:2]
        sheet = sheet_of(loop, bench, pace, starts)
        for turns in range(sheet.stages + 3 * sheet.held):
            begun = [(step[4], turn) for tick in flat.unrolled(sheet, turns) for step, turn in tick]
            self.assertEqual(sorted(begun), sorted([(row[0], turn) for row in EACH for turn in range(turns)]))


class Refused(unittest.TestCase):
    def refused(self, kind, loop, bench, pace, starts):
        handed = list(starts)
        with self.assertRaises(kind) as caught:
            sheet_of(loop, bench, pace, handed)
        self.assertIs(type(caught.exception), kind)
        self.assertEqual(handed, starts)

    def test_no_arm_ahead_of_all(self):
        for word in WORDS:
            for pace, starts in ((1, [0] * 12), (0, [0] * 12), (201, [-1] * 12), (1, [])):
                self.refused(NoArm, Loop(97, EACH), bench_without(word), pace, starts)

    def test_bad_plan_ahead_of_unfit(self):
        for pace in (-1, 0, 201, 10 ** 60):
            self.refused(BadPlan, ADDED, ADDER, pace, [0, 1, 4])
            self.refused(BadPlan, ADDED, ADDER, pace, [0, 0, 0])
        for starts in ([], [0], [0, 1], [0, 1, 4, 5], [-1, 1, 4], [0, 1, 2001], [2001, 0, 0]):
            self.refused(BadPlan, ADDED, ADDER, 5, starts)

    def test_unfit(self):
        self.refused(Unfit, ADDED, ADDER, 5, [0, 0, 4])
        self.refused(Unfit, ADDED, ADDER, 5, [0, 1, 3])
        self.refused(Unfit, ADDED, ADDER, 2, [0, 1, 4])
        self.refused(Unfit, ADDED, ADDER, 4, [0, 1, 4])
        self.refused(Unfit, DEEP, bench_of(width=4), 2, [0, 1, 0])


class TheAskersOwn(unittest.TestCase):
    def lists_within(self, value):
        if isinstance(value, list):
            return [value] + [inner for part in value for inner in self.lists_within(part)]
        return [inner for part in value for inner in self.lists_within(part)] if isinstance(value, tuple) else []

    def test_no_list_stands_twice(self):
        sheet = sheet_of(DEEP, bench_of(width=4), 2, [0, 1, 5])
        lists = self.lists_within(flat.fields(sheet))
        self.assertEqual(len({id(each) for each in lists}), len(lists))

    def test_what_is_told_is_told_anew(self):
        first = sheet_of(DEEP, bench_of(width=4), 2, [0, 1, 5])
        whole = copy.deepcopy(flat.fields(first))
        for each in self.lists_within(flat.fields(first)):
            each.append("changed")
        self.assertEqual(flat.fields(sheet_of(DEEP, bench_of(width=4), 2, [0, 1, 5])), whole)

    def test_a_later_change_of_starts_changes_nothing(self):
        starts = [0, 1, 5]
        sheet = sheet_of(DEEP, bench_of(width=4), 2, starts)
        whole = copy.deepcopy(flat.fields(sheet))
        starts[2] = 7
        starts.append(1)
        self.assertEqual(flat.fields(sheet), whole)

    def test_loop_and_bench_stay(self):
        loop, bench = Loop(97, EACH), samples.some_bench(3)
        sheet_of(loop, bench, *serial(loop, bench))
        self.assertEqual((loop.measure, loop.rows()), (97, EACH))
        other = samples.some_bench(3)
        self.assertEqual([bench.work(word) for word in WORDS], [other.work(word) for word in WORDS])
        self.assertEqual(bench.arms(), other.arms())


if __name__ == "__main__":
    unittest.main()
