"""Points 2, 3, 11, 30 and 31: filled, emptied and laid."""

import copy
import unittest

import flat
import plannings
import samples
from lapwork.errors import BadPlan, BadTurns, NoArm, Short, Unfit
from lapwork.loops import Loop
from lapwork.machine import emptied, filled, laid, run
from lapwork.meaning import outcome
from lapwork.planner import planned
from lapwork.plans import serial
from lapwork.sheets import sheet_of
from samples import CHAIN, CHAIN_BENCH, EACH, EACH_DEEPEST, GREAT, TOP, bench_of, bench_without

# idle is read by none and near in its own turn alone; one, three and six are read from so many turns back.
DEEP = Loop(10, [
    ("idle", "same", (4,)),
    ("six", "sum", (("six", 6), ("three", 3))),
    ("near", "less", (("one", 1), ("six", 0))),
    ("three", "same", (("near", 0),)),
    ("one", "tell", (("three", 1),)),
])
BEGIN = {"six": [1, -2, 13, -24, GREAT + 5, -TOP], "three": [7, -8, 19], "one": [-1]}


class Case(unittest.TestCase):
    def refused(self, kind, ask, *handed):
        kept = copy.deepcopy(handed[2:])
        with self.assertRaises(kind) as caught:
            ask(*handed)
        self.assertIs(type(caught.exception), kind)
        self.assertEqual(handed[2:], kept)
        return caught.exception

    def short(self, name, ask, *handed):
        self.assertEqual(self.refused(Short, ask, *handed).name, name)


class Filled(Case):
    def test_by_hand_with_held_equal_to_the_greatest_deepest(self):
        # Six boxes for each row: the turns -1 to -6 lie in the boxes 5, 4, 3, 2, 1 and 0 of a row.
        self.assertEqual(filled(DEEP, 6, BEGIN), [
            0, 0, 0, 0, 0, 0,
            1, 5, 6, 3, 8, 1,
            0, 0, 0, 0, 0, 0,
            0, 0, 0, 9, 2, 7,
            0, 0, 0, 0, 0, 9,
        ])

    def test_by_hand_with_more_held(self):
        self.assertEqual(filled(DEEP, 8, BEGIN), [
            0, 0, 0, 0, 0, 0, 0, 0,
            0, 0, 1, 5, 6, 3, 8, 1,
            0, 0, 0, 0, 0, 0, 0, 0,
            0, 0, 0, 0, 0, 9, 2, 7,
            0, 0, 0, 0, 0, 0, 0, 9,
        ])

    def test_nothing_deep(self):
        loop = Loop(97, [("a", "take", ()), ("b", "tell", (("a", 0),))])
        for held in (1, 2, 5):
            self.assertEqual(filled(loop, held, {}), [0] * (2 * held))
            self.assertEqual(filled(loop, held, {"a": [1, 2], "b": [3]}), [0] * (2 * held))

    def test_one_row_of_each_depth(self):
        for back in range(1, 7):
            loop = Loop(100, [("a", "same", (("a", back),))])
            for held in (back, back + 1, back + 7, 40):
                boxes = filled(loop, held, {"a": [11, 22, 33, 44, 55, 66][:back]})
                self.assertEqual(boxes, [0] * (held - back) + [66, 55, 44, 33, 22, 11][6 - back:])

    def test_numbers_of_either_sign_as_rests(self):
        for measure in (2, 7, 10 ** 60):
            loop = Loop(measure, [("a", "same", (("a", 1),))])
            for number in (0, 1, -1, measure - 1, measure, measure + 1, -measure, -measure - 1, TOP, -TOP):
                self.assertEqual(filled(loop, 1, {"a": [number]}), [number % measure])

    def test_longer_lists_and_other_names_are_not_looked_at(self):
        begin = {name: numbers + [5, 6, 7] for name, numbers in BEGIN.items()}
        begin.update({"idle": [1, 1, 1], "near": [2], "nobody": [3]})
        for held in (6, 7):
            self.assertEqual(filled(DEEP, held, begin), filled(DEEP, held, BEGIN))

    def test_short(self):
        for name in ("six", "three", "one"):
            self.short(name, filled, DEEP, 6, {**BEGIN, name: BEGIN[name][:-1]})
            self.short(name, filled, DEEP, 6, {**BEGIN, name: []})
            self.short(name, filled, DEEP, 6, {other: BEGIN[other] for other in BEGIN if other != name})

    def test_the_first_row_in_order_is_named(self):
        self.short("six", filled, DEEP, 6, {})
        self.short("three", filled, DEEP, 6, {"six": BEGIN["six"]})
        self.short("one", filled, DEEP, 6, {"three": BEGIN["three"], "six": BEGIN["six"]})
        self.short("six", filled, DEEP, 6, {"one": [1], "three": [1, 2], "six": [1]})

    def test_handed_in_and_told(self):
        begin = copy.deepcopy(BEGIN)
        first = filled(DEEP, 6, begin)
        kept = list(first)
        self.assertEqual(begin, BEGIN)
        begin["six"][0] = 9
        self.assertEqual(first, kept)
        first.clear()
        self.assertEqual(filled(DEEP, 6, BEGIN), kept)


class Emptied(unittest.TestCase):
    def boxes(self, held):
        return [100 * row + box for row in range(5) for box in range(held)]

    def test_by_hand(self):
        self.assertEqual(emptied(DEEP, 6, 6, self.boxes(6)), [
            ("six", [105, 104, 103, 102, 101, 100]), ("three", [305, 304, 303]), ("one", [405]),
        ])
        # Behind seven turns the last one, with the number 6, lies in box 0.
        self.assertEqual(emptied(DEEP, 6, 7, self.boxes(6)), [
            ("six", [100, 105, 104, 103, 102, 101]), ("three", [300, 305, 304]), ("one", [400]),
        ])
        self.assertEqual(emptied(DEEP, 8, 13, self.boxes(8)), [
            ("six", [104, 103, 102, 101, 100, 107]), ("three", [304, 303, 302]), ("one", [404]),
        ])

    def test_fewer_turns_than_held_and_none(self):
        self.assertEqual(emptied(DEEP, 6, 0, self.boxes(6)), emptied(DEEP, 6, 6, self.boxes(6)))
        self.assertEqual(emptied(DEEP, 8, 2, self.boxes(8)), [
            ("six", [101, 100, 107, 106, 105, 104]), ("three", [301, 300, 307]), ("one", [401]),
        ])

    def test_nothing_deep(self):
        loop = Loop(97, [("a", "take", ()), ("b", "tell", (("a", 0),))])
        self.assertEqual(emptied(loop, 1, 5, [1, 2]), [])

    def test_without_turns_the_ends_are_what_was_filled(self):
        rests = [(name, [number % 10 for number in BEGIN[name]]) for name in ("six", "three", "one")]
        for held in (6, 7, 13):
            self.assertEqual(emptied(DEEP, held, 0, filled(DEEP, held, BEGIN)), rests)

    def test_the_twelve_rows(self):
        for held in (6, 9):
            for turns in (0, 1, 5, 6, 7, 9, 10, 300):
                boxes = [number * 7 for number in range(12 * held)]
                told = emptied(Loop(97, EACH), held, turns, boxes)
                self.assertEqual([name for name, last in told], [row[0] for row in EACH if EACH_DEEPEST[row[0]] > 0])
                places = {row[0]: place for place, row in enumerate(EACH)}
                for name, last in told:
                    lying = [7 * (places[name] * held + (turns - 1 - back) % held) for back in range(EACH_DEEPEST[name])]
                    self.assertEqual(last, lying)

    def test_handed_in_and_told(self):
        boxes = self.boxes(6)
        first = emptied(DEEP, 6, 4, boxes)
        kept = copy.deepcopy(first)
        self.assertEqual(boxes, self.boxes(6))
        boxes[:] = [0] * 30
        self.assertEqual(first, kept)
        first[0][1].clear()
        self.assertEqual(emptied(DEEP, 6, 4, self.boxes(6)), kept)


class LaidIsTheOutcome(unittest.TestCase):
    def check(self, loop, bench, plan, turns, seed):
        feeds, begin = samples.some_run(seed, loop, turns)
        handed = copy.deepcopy((plan[1], feeds, begin))
        told = laid(loop, bench, plan[0], plan[1], turns, feeds, begin)
        self.assertEqual(told, outcome(loop, turns, feeds, begin))
        self.assertEqual(told, samples.meant_outcome(loop.measure, loop.rows(), turns, feeds, begin))
        self.assertEqual((plan[1], feeds, begin), handed)
        return told

    def check_all(self, loop, bench, pace, starts):
        stages = max(starts) // pace + 1
        for turns in sorted({0, 1, 2, max(0, stages - 2), stages - 1, stages, stages + 1, stages + 7, 40}):
            self.check(loop, bench, (pace, starts), turns, turns)

    def test_by_hand(self):
        loop = Loop(1000, [("x", "take", ()), ("acc", "sum", (("acc", 1), ("x", 0))), ("out", "tell", (("acc", 0),))])
        for pace, starts in ((5, [0, 1, 4]), (3, [0, 1, 4]), (3, [0, 7, 31]), (200, [0, 1000, 2000])):
            told = laid(loop, bench_of(delay=3, width=4, others=[("take", "arm", 1, 1)]), pace, starts, 3,
                        {"x": [5, 7, 990]}, {"acc": [100]})
            self.assertEqual(told, ([("out", [105, 112, 102])], [("acc", [102])]))

    def test_every_plan(self):
        gapped = list(plannings.gapped_plans(60))
        self.assertGreater(len(gapped), 150)
        for plans in (plannings.serial_plans(80), plannings.best_plans(80, 40), gapped):
            for each in plans:
                self.check_all(*each)

    def test_many_turns(self):
        loop, bench = Loop(10 ** 9 + 7, EACH), samples.some_bench(11)
        for plan in (serial(loop, bench), planned(loop, bench)[:2]):
            for turns in (100, 299, 300):
                self.check(loop, bench, plan, turns, turns)

    def test_several_rows_that_tell_and_rows_that_tell_nothing(self):
        loop = Loop(97, [("b", "tell", (("a", 1),)), ("a", "take", ()), ("c", "tell", (("b", 2),)), ("d", "tell", (5,))])
        for starts in ([0, 0, 0, 0], [9, 0, 4, 1], [0, 3, 30, 7]):
            told = self.check(loop, bench_of(width=4), (4, starts), 5, 3)
            self.assertEqual([name for name, numbers in told[0]], ["b", "c", "d"])
            self.assertEqual(told[0][2], ("d", [5] * 5))
            self.assertEqual(self.check(loop, bench_of(width=4), (4, starts), 0, 3)[0], [("b", []), ("c", []), ("d", [])])
        silent = Loop(97, [("a", "same", (1,))])
        self.assertEqual(self.check(silent, bench_of(), (1, [0]), 9, 3), ([], []))

    def test_by_way_of_the_four(self):
        for seed in range(30):
            loop, bench = samples.some_loop(seed), samples.some_bench(seed)
            pace, starts = planned(loop, bench)[:2]
            feeds, begin = samples.some_run(seed, loop, 9)
            sheet = sheet_of(loop, bench, pace, starts)
            made, boxes = run(loop.measure, sheet, 9, feeds, filled(loop, sheet.held, begin))
            told, ends = laid(loop, bench, pace, starts, 9, feeds, begin)
            self.assertEqual(emptied(loop, sheet.held, 9, boxes), ends)
            self.assertEqual(sorted(made), sorted([(name, turn, number) for name, numbers in told
                                                   for turn, number in enumerate(numbers)]))
            self.assertEqual((made, boxes), flat.done(loop.measure, sheet, 9, feeds, filled(loop, sheet.held, begin)))


class CutInTwo(unittest.TestCase):
    def check(self, loop, bench, plans, first, second):
        feeds, begin = samples.some_run(first, loop, first + second)
        whole = laid(loop, bench, *plans[0], first + second, feeds, begin)
        one = laid(loop, bench, *plans[0], first, feeds, begin)
        rest = {name: numbers[first:] for name, numbers in feeds.items()}
        two = laid(loop, bench, *plans[1], second, rest, dict(one[1]))
        joined = [(name, made + more) for (name, made), (other, more) in zip(one[0], two[0])]
        self.assertEqual((joined, two[1]), whole)

    def test_gone_on_with_by_its_ends(self):
        for seed in range(40):
            loop, bench = samples.some_loop(seed), samples.some_bench(seed)
            plans = [planned(loop, bench)[:2], serial(loop, bench)]
            for first, second in ((0, 7), (1, 6), (3, 4), (7, 0), (12, 11)):
                self.check(loop, bench, plans, first, second)
                self.check(loop, bench, plans[::-1], first, second)
                self.check(loop, bench, [plans[0], plans[0]], first, second)


class Refused(Case):
    loop = Loop(97, [
        ("deep", "same", (("taken", 3),)),
        ("taken", "take", ()),
        ("back", "tell", (("deep", 5),)),
        ("other", "take", ()),
        ("late", "sum", (("other", 2), ("back", 0))),
    ])
    feeds = {"taken": [1, 2], "other": [3, 4]}
    begin = {"deep": [1, 2, 3, 4, 5], "taken": [6, 7, 8], "other": [9, 10]}
    starts = [0, 1, 2, 3, 4]

    def test_taken_as_it_stands(self):
        told = laid(self.loop, bench_of(), 5, self.starts, 2, self.feeds, self.begin)
        self.assertEqual(told, outcome(self.loop, 2, self.feeds, self.begin))

    def test_no_arm_ahead_of_all(self):
        for word in ("same", "take", "tell", "sum"):
            bench = bench_without(word)
            for pace, starts, turns in ((5, self.starts, 2), (0, self.starts, 2), (5, [], 2), (5, [9] * 5, 301)):
                self.refused(NoArm, laid, self.loop, bench, pace, starts, turns, {}, {})

    def test_bad_plan_ahead_of_the_rest(self):
        for pace in (-1, 0, 201, GREAT):
            for turns in (2, 301, -1):
                self.refused(BadPlan, laid, self.loop, bench_of(), pace, self.starts, turns, {}, {})
        for starts in ([], [0] * 4, [0] * 6, [0, 1, 2, 3, 2001], [-1, 1, 2, 3, 4]):
            for turns in (2, 301, -1):
                self.refused(BadPlan, laid, self.loop, bench_of(), 5, starts, turns, {}, {})

    def test_unfit_ahead_of_the_rest(self):
        for starts in ([0, 1, 2, 3, 3], [0, 0, 2, 3, 4], [0, 1, 2, 3, 5]):
            for turns in (2, 301, -1):
                self.refused(Unfit, laid, self.loop, bench_of(), 5, starts, turns, {}, {})

    def test_bad_turns_ahead_of_short(self):
        for turns in (-GREAT, -1, 301, GREAT):
            self.refused(BadTurns, laid, self.loop, bench_of(), 5, self.starts, turns, {}, {})
            self.refused(BadTurns, laid, self.loop, bench_of(), 5, self.starts, turns, self.feeds, self.begin)

    def test_feeds_ahead_of_begin_and_rows_in_order(self):
        def short(name, turns, feeds, begin):
            self.short(name, laid, self.loop, bench_of(), 5, self.starts, turns, feeds, begin)

        short("taken", 2, {}, {})
        short("taken", 2, {"taken": [1], "other": [3]}, {})
        short("other", 2, {"taken": [1, 2]}, {})
        short("other", 2, {"taken": [1, 2], "other": [3]}, self.begin)
        short("deep", 2, self.feeds, {})
        short("deep", 2, self.feeds, {**self.begin, "deep": [1, 2, 3, 4]})
        short("taken", 2, self.feeds, {**self.begin, "taken": [1, 2]})
        short("other", 2, self.feeds, {**self.begin, "other": []})
        short("deep", 0, {}, {})
        short("taken", 3, self.feeds, self.begin)

    def test_feeds_are_asked_for_by_turns_and_not_by_what_a_sheet_reads(self):
        loop = Loop(97, [("x", "take", ())])
        self.assertEqual(laid(loop, bench_of(), 1, [0], 3, {"x": [1, 2, 3]}, {}), ([], []))
        self.short("x", laid, loop, bench_of(), 1, [0], 3, {"x": [1, 2]}, {})
        self.assertEqual(laid(loop, bench_of(), 1, [0], 0, {}, {}), ([], []))

    def test_turns_at_the_edges(self):
        for turns in (0, 300):
            feeds = {"x": list(range(turns))}
            told = laid(CHAIN, CHAIN_BENCH, *serial(CHAIN, CHAIN_BENCH), turns, feeds, {"b": [1]})
            self.assertEqual(told, outcome(CHAIN, turns, feeds, {"b": [1]}))


class TheAskersOwn(unittest.TestCase):
    def test_told(self):
        feeds, begin = {"x": [1, 2, 3]}, {"b": [5]}
        plan = serial(CHAIN, CHAIN_BENCH)
        first = laid(CHAIN, CHAIN_BENCH, *plan, 3, feeds, begin)
        kept = copy.deepcopy(first)
        begin["b"].append(7)
        feeds["x"][0] = 9
        self.assertEqual(first, kept)
        first[0].append(1)
        first[1][0][1].append(1)
        self.assertEqual(laid(CHAIN, CHAIN_BENCH, *plan, 3, {"x": [1, 2, 3]}, {"b": [5]}), kept)

    def test_kinds(self):
        loop = Loop(97, [("a", "tell", (("a", 1),))])
        told = laid(loop, bench_of(), 1, [0], 2, {}, {"a": [4]})
        self.assertEqual(told, ([("a", [4, 4])], [("a", [4])]))
        self.assertEqual([type(part) for part in (told, told[0], told[0][0], told[0][0][1])], [tuple, list, tuple, list])
        self.assertEqual([type(part) for part in (told[1], told[1][0], told[1][0][1])], [list, tuple, list])


if __name__ == "__main__":
    unittest.main()
