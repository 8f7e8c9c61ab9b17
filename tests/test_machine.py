"""Points 2, 3 and 29: run."""

import copy
import unittest

import flat
import grounds
import samples
from lapwork.errors import BadTurns
from lapwork.machine import run
from lapwork.planner import planned
from lapwork.plans import serial
from lapwork.sheets import Sheet, sheet_of
from samples import GREAT, TOP


def tell(name, number, offset=0, delay=1, box=0):
    return ("tell", delay, box, [number], name, offset)


def flat_sheet(part):
    """One stage and held 1: ahead and the tail are without ticks, and middle is done once for each turn."""
    return Sheet(1, 1, 1, [], [], part, [[]])


def once(part):
    """A sheet of which a run of no turns does just this part."""
    return Sheet(1, 1, 2, [part], [], [], [[]])


# Each part tells its own name.
MARKED = Sheet(
    1, 3, 4,
    [[[tell("shorta", 0, 10)]], [[tell("shortb", 1, 11)]], [[tell("shortc", 2, 12)]]],
    [[tell("ahead", 3, 13)]],
    [[tell("middle", 4, 14)]],
    [[[tell("taila", 5, 15)]], [[tell("tailb", 6, 16)]], [[tell("tailc", 7, 17)]]],
)


class WhichParts(unittest.TestCase):
    def told(self, turns, sheet=MARKED):
        return run(100, sheet, turns, {}, [0])[0]

    def test_fewer_turns_than_stages_less_one(self):
        self.assertEqual(self.told(0), [("shorta", 10, 0)])
        self.assertEqual(self.told(1), [("shortb", 11, 1)])
        self.assertEqual(self.told(2), [("shortc", 12, 2)])

    def test_middle_not_at_all(self):
        self.assertEqual(self.told(3), [("ahead", 13, 3), ("taila", 15, 5)])
        self.assertEqual(self.told(4), [("ahead", 13, 3), ("tailb", 16, 6)])
        self.assertEqual(self.told(5), [("ahead", 13, 3), ("tailc", 17, 7)])

    def test_middle_once(self):
        self.assertEqual(self.told(6), [("ahead", 13, 3), ("middle", 14, 4), ("taila", 18, 5)])
        self.assertEqual(self.told(7), [("ahead", 13, 3), ("middle", 14, 4), ("tailb", 19, 6)])
        self.assertEqual(self.told(8), [("ahead", 13, 3), ("middle", 14, 4), ("tailc", 20, 7)])

    def test_middle_several_times(self):
        twice = [("ahead", 13, 3), ("middle", 14, 4), ("middle", 17, 4)]
        self.assertEqual(self.told(9), twice + [("taila", 21, 5)])
        self.assertEqual(self.told(11), twice + [("tailc", 23, 7)])
        self.assertEqual(self.told(13), twice + [("middle", 20, 4), ("tailb", 25, 6)])

    def test_three_hundred_turns(self):
        # 297 behind the stages: ninety-nine passings and nothing left over.
        told = self.told(300)
        middle = [("middle", 14 + 3 * passing, 4) for passing in range(99)]
        self.assertEqual(told, [("ahead", 13, 3)] + middle + [("taila", 15 + 297, 5)])
        self.assertEqual(self.told(299)[-2:], [("middle", 14 + 3 * 97, 4), ("tailc", 17 + 294, 7)])

    def test_one_stage_has_no_shorts(self):
        sheet = Sheet(1, 2, 1, [], [[tell("ahead", 1)]], [[tell("middle", 2)]], [[[tell("even", 3)]], [[tell("odd", 4)]]])
        self.assertEqual(self.told(0, sheet), [("ahead", 0, 1), ("even", 0, 3)])
        self.assertEqual(self.told(1, sheet), [("ahead", 0, 1), ("odd", 0, 4)])
        self.assertEqual(self.told(2, sheet), [("ahead", 0, 1), ("middle", 0, 2), ("even", 2, 3)])
        self.assertEqual(self.told(3, sheet), [("ahead", 0, 1), ("middle", 0, 2), ("odd", 2, 4)])

    def test_the_pace_is_not_looked_at(self):
        for pace in (-5, 0, 1, 2, 200, 10 ** 60):
            sheet = Sheet(pace, 3, 4, MARKED.shorts, MARKED.ahead, MARKED.middle, MARKED.tails)
            for turns in (0, 2, 3, 7, 30):
                self.assertEqual(run(100, sheet, turns, {}, [9]), run(100, MARKED, turns, {}, [9]))

    def test_parts_without_ticks_and_ticks_without_steps(self):
        self.assertEqual(run(7, Sheet(1, 1, 1, [], [], [], [[]]), 5, {}, [1, 2]), ([], [1, 2]))
        self.assertEqual(run(7, Sheet(1, 1, 1, [], [[], []], [[], [], []], [[[]]]), 5, {}, [1, 2]), ([], [1, 2]))
        self.assertEqual(run(7, Sheet(1, 1, 1, [], [], [], [[]]), 0, {}, []), ([], []))
        # Two ticks without steps pass ahead of the read, so that the number has landed.
        part = [[("same", 2, 0, [5], "a", 0)], [], [], [tell("b", ("box", 0), box=1)]]
        self.assertEqual(run(7, once(part), 0, {}, [1, 2]), ([("b", 0, 5)], [5, 5]))

    def test_many_stages_with_few_turns(self):
        parts = [[[tell("n", number)]] for number in range(299)]
        sheet = Sheet(1, 1, 300, parts, [[tell("ahead", 1)]], [[tell("middle", 2)]], [[[tell("tail", 3)]]])
        for turns in (0, 1, 57, 298):
            self.assertEqual(run(1000, sheet, turns, {}, [0])[0], [("n", 0, turns)])
        self.assertEqual(run(1000, sheet, 299, {}, [0])[0], [("ahead", 0, 1), ("tail", 0, 3)])
        self.assertEqual(run(1000, sheet, 300, {}, [0])[0], [("ahead", 0, 1), ("middle", 0, 2), ("tail", 1, 3)])


class Landing(unittest.TestCase):
    def boxes(self, part, boxes, turns=0):
        return run(1000, once(part), turns, {}, boxes)

    def test_not_ahead_of_its_delay_and_not_behind(self):
        for delay in range(1, 7):
            part = [[("same", delay, 0, [5], "a", 0)]] + [[] for tick in range(8)]
            for tick in range(1, 9):
                part[tick] = [tell("b", ("box", 0), tick, box=1)]
            told = self.boxes(part, [9, 9])[0]
            self.assertEqual(told, [("b", tick, 9 if tick < delay else 5) for tick in range(1, 9)], delay)

    def test_a_step_of_the_same_tick_does_not_see_it(self):
        part = [[("same", 1, 0, [5], "a", 0), tell("b", ("box", 0), box=1)], [tell("c", ("box", 0), box=1)]]
        self.assertEqual(self.boxes(part, [9, 9]), ([("b", 0, 9), ("c", 0, 5)], [5, 5]))

    def test_it_lands_ahead_of_all_that_begins(self):
        part = [[("same", 2, 0, [5], "a", 0)], [], [tell("b", ("box", 0), box=1), tell("c", ("box", 0), box=2)]]
        self.assertEqual(self.boxes(part, [9, 9, 9])[0], [("b", 0, 5), ("c", 0, 5)])

    def test_two_landings_in_one_box_in_one_tick(self):
        # Both land in tick 3, in the order in which they began.
        part = [[("same", 3, 0, [5], "a", 0)], [("same", 2, 0, [6], "a", 0)], [], [tell("b", ("box", 0), box=1)]]
        self.assertEqual(self.boxes(part, [9, 9]), ([("b", 0, 6)], [6, 6]))
        part = [[("same", 2, 0, [5], "a", 0), ("same", 2, 0, [6], "a", 0)], [], [tell("b", ("box", 0), box=1)]]
        self.assertEqual(self.boxes(part, [9, 9]), ([("b", 0, 6)], [6, 6]))
        part = [[("same", 2, 0, [6], "a", 0), ("same", 2, 0, [5], "a", 0)], [], [tell("b", ("box", 0), box=1)]]
        self.assertEqual(self.boxes(part, [9, 9]), ([("b", 0, 5)], [5, 5]))

    def test_what_began_later_may_land_sooner(self):
        part = [[("same", 6, 0, [5], "a", 0)], [("same", 1, 0, [6], "a", 0)], [tell("b", ("box", 0), box=1)]]
        self.assertEqual(self.boxes(part, [9, 9]), ([("b", 0, 6)], [5, 6]))

    def test_behind_the_last_tick_the_rest_lands_tick_by_tick(self):
        part = [[("same", 6, 0, [6], "a", 0), ("same", 2, 0, [2], "a", 0), ("same", 4, 0, [4], "a", 0)]]
        self.assertEqual(self.boxes(part, [9]), ([], [6]))
        part = [[("same", 2, 0, [2], "a", 0), ("same", 6, 1, [6], "a", 0)], [("same", 1, 0, [1], "a", 0)],
                [("same", 6, 0, [7], "a", 0), ("same", 4, 1, [8], "a", 0)]]
        # Box 0 gets 2 and then 1 in tick 2 and 7 in tick 8; box 1 gets 6 and then 8, both in tick 6.
        self.assertEqual(self.boxes(part, [9, 9]), ([], [7, 8]))

    def test_each_delay_over_the_end_of_all(self):
        for delay in range(1, 7):
            self.assertEqual(self.boxes([[("same", delay, 1, [5], "a", 0)]], [9, 9, 9]), ([], [9, 5, 9]))

    def test_a_box_that_nothing_lands_in_keeps_what_was_handed_in(self):
        boxes = [-5, GREAT * 3, 0, 1000, 7]
        self.assertEqual(self.boxes([[("same", 1, 2, [5], "a", 0)]], boxes)[1], [-5, GREAT * 3, 5, 1000, 7])
        self.assertEqual(self.boxes([], boxes)[1], boxes)


class OverTheEndOfParts(unittest.TestCase):
    def test_from_ahead_into_middle_and_tails(self):
        late = [("same", 3, 0, [5], "a", 0)]
        ask = [tell("b", ("box", 0), box=1)]
        # It begins in tick 0 of ahead and lands in tick 3, the second one of the second passing of middle.
        sheet = Sheet(1, 1, 1, [], [late], [ask, ask], [[ask]])
        self.assertEqual([number for name, turn, number in run(97, sheet, 2, {}, [9, 9])[0]], [9, 9, 5, 5, 5])
        sheet = Sheet(1, 1, 1, [], [late, ask], [ask], [[ask, ask]])
        self.assertEqual([number for name, turn, number in run(97, sheet, 0, {}, [9, 9])[0]], [9, 9, 5])
        self.assertEqual([number for name, turn, number in run(97, sheet, 1, {}, [9, 9])[0]], [9, 9, 5, 5])

    def test_from_middle_into_the_next_passing(self):
        # The number made of the box lands in the second tick of the next passing, behind the read of that one.
        sheet = flat_sheet([[("sum", 3, 0, [("box", 0), 1], "a", 0)], [tell("b", ("box", 0), box=1)]])
        made, boxes = run(97, sheet, 4, {}, [0, 0])
        self.assertEqual(made, [("b", 0, 0), ("b", 1, 1), ("b", 2, 1), ("b", 3, 2)])
        self.assertEqual(boxes, [2, 2])

    def test_parts_without_ticks_take_no_time(self):
        late = [("same", 1, 0, [5], "a", 0)]
        sheet = Sheet(1, 1, 1, [], [late], [], [[[tell("b", ("box", 0), box=1)]]])
        self.assertEqual(run(97, sheet, 200, {}, [9, 9]), ([("b", 200, 5)], [5, 5]))


class Steps(unittest.TestCase):
    def test_every_deed(self):
        cases = (
            ("sum", [8, 5], 3), ("less", [3, 8], 5), ("times", [7, 8], 6), ("least", [13, 8], 3), ("most", [13, 8], 8),
            ("pick", [3, 4, 5], 4), ("pick", [20, 4, 5], 5), ("same", [27], 7), ("tell", [31], 1),
        )
        for word, numbers, number in cases:
            made, boxes = run(10, once([[(word, 1, 3, list(numbers), "a", 4)]]), 0, {}, [0, 0, 0, 9])
            self.assertEqual(boxes, [0, 0, 0, number], word)
            self.assertEqual(made, [("a", 4, number)] if word == "tell" else [])
            reads = [("box", place) for place in range(len(numbers))]
            made, boxes = run(10, once([[(word, 1, 3, reads, "a", 4)]]), 0, {}, numbers + [0] * (4 - len(numbers)))
            self.assertEqual(boxes, numbers + [0] * (3 - len(numbers)) + [number], word)

    def test_numbers_of_boxes_go_in_as_they_are(self):
        part = [[("least", 1, 2, [("box", 0), ("box", 1)], "a", 0), ("less", 1, 3, [("box", 0), 1], "a", 0)]]
        self.assertEqual(run(10, once(part), 0, {}, [-1, GREAT + 4, 0, 0]), ([], [-1, GREAT + 4, 4, 8]))

    def test_great_numbers(self):
        part = [[("times", 1, 0, [("box", 0), TOP], "a", 0)]]
        self.assertEqual(run(GREAT, once(part), 0, {}, [TOP])[1], [1])
        self.assertEqual(run(2, once(part), 0, {}, [TOP])[1], [1])

    def test_take_by_its_turn(self):
        take = ("take", 1, 0, [], "x", 1)
        sheet = Sheet(1, 2, 1, [], [[take]], [[take], [tell("y", ("box", 0), 1, box=1)]], [[[take]], [[take]]])
        feeds = {"x": [100, 1, 101, 103, 104, 5, 106, 107], "other": [7] * 8}
        made, boxes = run(10, sheet, 5, feeds, [0, 0])
        # Turns 1 in ahead, 1 and 3 in the passings of middle, 5 in the tail; y asks behind each of the middle.
        self.assertEqual((made, boxes), ([("y", 1, 1), ("y", 3, 3)], [5, 3]))

    def test_take_from_the_list_of_its_name(self):
        part = [[("take", 1, 0, [], "x", 0), ("take", 1, 1, [], "y", 2)]]
        self.assertEqual(run(10, once(part), 0, {"x": [-1], "y": [5, 6, GREAT + 7]}, [0, 0])[1], [9, 7])

    def test_take_in_shorts_by_its_offset_alone(self):
        part = [[("take", 1, 0, [], "x", 3)]]
        self.assertEqual(run(10, Sheet(1, 5, 3, [[], part], [], [], [[]] * 5), 1, {"x": [0, 1, 2, 8]}, [0])[1], [8])

    def test_told_as_they_began(self):
        part = [
            [tell("b", 2, 7, 6), ("same", 1, 0, [1], "c", 0), tell("a", 1, 3)], [], [tell("a", 4, 0), tell("a", 3, 0)],
        ]
        self.assertEqual(run(10, once(part), 0, {}, [0])[0], [("b", 7, 2), ("a", 3, 1), ("a", 0, 4), ("a", 0, 3)])

    def test_the_number_told_is_the_rest(self):
        self.assertEqual(run(10, once([[tell("a", 27)]]), 0, {}, [0])[0], [("a", 0, 7)])
        self.assertEqual(run(10, once([[tell("a", ("box", 0))]]), 0, {}, [-3])[0], [("a", 0, 7)])

    def test_offsets_and_turns_of_middle_and_tails(self):
        sheet = Sheet(1, 4, 2, [[]], [], [[tell("m", 1, 2), tell("m", 1, 5)]], [[[tell("t", 1, offset)]] for offset in range(4)])
        self.assertEqual([turn for name, turn, number in run(9, sheet, 1 + 4 * 3 + 2, {}, [0])[0]], [2, 5, 6, 9, 10, 13, 14])


class AgainstTheWords(unittest.TestCase):
    def test_sheets_that_no_loop_has(self):
        for seed in range(400):
            sheet, feeds, boxes = flat.some_sheet(seed)
            for turns in (0, 1, 2, 3, 4, 5, 7, 20):
                for measure in (2, 97, GREAT):
                    told = run(measure, sheet, turns, feeds, boxes)
                    self.assertEqual(told, flat.done(measure, sheet, turns, feeds, boxes), (seed, turns))

    def test_sheets_of_loops(self):
        for seed in range(60):
            loop, bench = samples.some_loop(seed), samples.some_bench(seed)
            for plan in (serial(loop, bench), planned(loop, bench)[:2]):
                sheet = sheet_of(loop, bench, *plan)
                boxes = [number * number % 89 - 40 for number in range(sheet.held * len(loop.rows()))]
                for turns in (0, 1, sheet.stages - 1, sheet.stages, sheet.stages + 2 * sheet.held + 1):
                    feeds, begin = samples.some_run(seed, loop, turns)
                    told = run(loop.measure, sheet, turns, feeds, boxes)
                    self.assertEqual(told, flat.done(loop.measure, sheet, turns, feeds, boxes))

    def test_three_hundred_turns(self):
        for seed in range(10):
            loop, bench = grounds.tight(seed)
            sheet = sheet_of(loop, bench, *planned(loop, bench)[:2])
            boxes = [1] * (sheet.held * len(loop.rows()))
            for turns in (299, 300):
                self.assertEqual(run(97, sheet, turns, {}, boxes), flat.done(97, sheet, turns, {}, boxes))


class Refused(unittest.TestCase):
    def refused(self, turns, sheet, feeds, boxes):
        with self.assertRaises(BadTurns) as caught:
            run(97, sheet, turns, feeds, boxes)
        self.assertIs(type(caught.exception), BadTurns)

    def test_turns(self):
        sheet = flat_sheet([[("take", 1, 0, [], "x", 0)]])
        for turns in (-GREAT, -2, -1, 301, 302, 1000, GREAT):
            self.refused(turns, sheet, {"x": [1] * 400}, [0])
            self.refused(turns, sheet, {}, [])
            self.refused(turns, MARKED, {}, [0])
        for turns in (0, 1, 299, 300):
            run(97, sheet, turns, {"x": [1] * turns}, [0])


class HandedIn(unittest.TestCase):
    def test_nothing_is_changed(self):
        for seed in range(40):
            sheet, feeds, boxes = flat.some_sheet(seed)
            kept = copy.deepcopy((flat.fields(sheet), feeds, boxes))
            for turns in (0, 1, 5, 20):
                run(97, sheet, turns, feeds, boxes)
                self.assertEqual((flat.fields(sheet), feeds, boxes), kept)

    def test_what_is_told_is_the_askers_own(self):
        sheet, boxes = flat_sheet([[tell("a", ("box", 0), 0, 1, 1)]]), [4, 5]
        first = run(97, sheet, 2, {}, boxes)
        first[0].append("changed")
        first[1][0] = 77
        self.assertEqual(run(97, sheet, 2, {}, boxes), ([("a", 0, 4), ("a", 1, 4)], [4, 4]))
        self.assertEqual(boxes, [4, 5])
        second = run(97, sheet, 2, {}, boxes)
        boxes[0] = 6
        sheet.middle[0].clear()
        self.assertEqual(second, ([("a", 0, 4), ("a", 1, 4)], [4, 4]))

    def test_kinds(self):
        told = run(97, flat_sheet([[tell("a", 3)]]), 1, {}, [0])
        self.assertIs(type(told), tuple)
        self.assertEqual([type(part) for part in told], [list, list])
        self.assertEqual([type(part) for part in told[0]], [tuple])


if __name__ == "__main__":
    unittest.main()
