"""Points 2, 3, 19, 20 and 21: cases, stretches, trees and closes."""

import copy
import random
import unittest

import grounds
import samples
from lapwork.benches import Bench
from lapwork.errors import NoArm
from lapwork.loops import Loop
from lapwork.planner import looked
from lapwork.ties import ties
from lapwork.trees import closes
from samples import EACH, GREAT, WORDS, bench_of

# a and b wait for one another, c for itself; d waits for a alone.
ROUND = Loop(97, [
    ("a", "same", (("b", 1),)),
    ("b", "tell", (("a", 0),)),
    ("c", "sum", (("c", 2), 1)),
    ("d", "less", (("a", 0), 1)),
])
ROUND_TIES = [(1, 0, 1, 2), (0, 1, 0, 2), (2, 2, 2, 5), (0, 3, 0, 2)]


def round_bench(holds=(1, 1, 1, 1), width=1):
    works = zip(("same", "tell", "sum", "less"), ("left", "left", "right", "right"), (2, 2, 5, 1), holds)
    return Bench([("left", width), ("right", width)], list(works))


def lone(count, width=1, hold=1, delay=1):
    return samples.lone(count), bench_of(delay=delay, hold=hold, width=width)


class Closing(unittest.TestCase):
    def check(self, wanted, loop, bench, pace, tree):
        handed = copy.deepcopy(tree)
        met = closes(loop, bench, pace, handed)
        self.assertIs(met, wanted, (pace, tree))
        self.assertEqual(handed, tree)
        self.assertEqual(grounds.good(loop, bench, pace, tree, {0: 0}), wanted, (pace, tree))


class Rings(Closing):
    def ring(self, wanted, pace, places, loop=ROUND, bench=None):
        self.check(wanted, loop, bench or round_bench(), pace, ("ring", places))

    def test_the_ties_are_as_meant(self):
        self.assertEqual(ties(ROUND, round_bench()), ROUND_TIES)

    def test_of_one_tie_to_itself(self):
        # 5 - 2 * pace: 3, 1, -1.
        for pace, wanted in ((1, True), (2, True), (3, False), (4, False), (200, False)):
            self.ring(wanted, pace, [2])

    def test_of_one_tie_to_itself_that_sums_to_nought_and_to_one(self):
        loop = Loop(97, [("x", "tell", (1,)), ("a", "same", (("a", 2),))])
        for delay, pace, wanted in ((4, 2, False), (5, 2, True), (6, 3, False), (6, 2, True), (2, 1, False), (3, 1, True)):
            self.ring(wanted, pace, [0], loop, bench_of(delay=delay))

    def test_of_row_nought_to_itself(self):
        # Its rest is said, so the stretch is rounded up to a multiple of the pace, which is above 0 as it was before.
        for back in range(1, 7):
            loop = Loop(97, [("a", "same", (("a", back),))])
            for delay in range(1, 7):
                for pace in range(1, 8):
                    self.ring(delay > pace * back, pace, [0], loop, bench_of(delay=delay))

    def test_of_several_ties(self):
        # 2 and 2 - pace: 3, 2, 1, 0, -1.
        for pace, wanted in ((1, True), (2, True), (3, True), (4, False), (5, False), (200, False)):
            self.ring(wanted, pace, [0, 1])
            self.ring(wanted, pace, [1, 0])

    def test_the_same_place_twice(self):
        self.ring(True, 2, [2, 2])
        self.ring(False, 3, [2, 2])
        self.ring(True, 3, [0, 1, 0, 1])
        self.ring(False, 4, [1, 0, 1, 0, 1, 0])
        self.ring(False, 3, [0, 0])
        self.ring(False, 3, [0, 1, 0])
        self.ring(False, 1, [0, 1, 1])

    def test_two_hundred_places(self):
        self.ring(True, 3, [0, 1] * 100)
        self.ring(False, 4, [0, 1] * 100)
        self.ring(False, 3, [0, 1] * 99 + [0, 0])
        self.ring(True, 2, [2] * 200)

    def test_what_does_not_go_round(self):
        for places in ([0], [1], [3], [0, 3], [1, 3], [3, 1], [0, 2], [2, 0, 1], [0, 1, 2], [1, 3, 0]):
            self.ring(False, 1, places)

    def test_what_goes_on_but_does_not_come_back(self):
        loop = Loop(97, [("a", "same", (1,)), ("b", "same", (("a", 0),)), ("c", "same", (("b", 0),))])
        self.ring(False, 1, [0, 1], loop, bench_of(delay=6))
        self.ring(False, 1, [1, 0], loop, bench_of(delay=6))

    def test_no_place_at_all(self):
        for pace in (1, 4, 200):
            self.ring(False, pace, [])

    def test_places_below_nought_and_behind_the_last_tie(self):
        # As Python counts from behind, -2 would be the tie of c to itself, -4 and -3 the ring of a and b.
        for places in ([-2], [-4, -3], [0, -3], [-4, 1], [-1], [4], [0, 5], [4, 4], [GREAT], [-GREAT], [2, 4]):
            self.ring(False, 1, places)

    def test_where_there_is_no_tie(self):
        loop, bench = lone(2)
        for places in ([], [0], [-1], [0, 0]):
            self.ring(False, 1, places, loop, bench)

    def test_one_sum_of_a_ring_may_be_good_where_its_parts_are_not(self):
        # Two rings through a: one sums to 1, the other to -3 at pace 3; together they are not above 0.
        rows = [("a", "sum", (("b", 1), ("c", 1))), ("b", "tell", (("a", 0),)), ("c", "same", (("a", 0),))]
        bench = Bench([("x", 4)], [("sum", "x", 1, 1), ("tell", "x", 3, 1), ("same", "x", 1, 1)])
        loop = Loop(97, rows)
        self.assertEqual(ties(loop, bench), [(1, 0, 1, 3), (2, 0, 1, 1), (0, 1, 0, 1), (0, 2, 0, 1)])
        self.ring(True, 3, [2, 0], loop, bench)
        self.ring(False, 3, [3, 1], loop, bench)
        self.ring(False, 3, [2, 0, 3, 1], loop, bench)
        self.ring(True, 3, [2, 0, 2, 0, 3, 1], loop, bench)


class Stretches(Closing):
    def test_both_rests_said(self):
        # At pace 4 the ring of a and b sums to 0; with b at another rest than 2 it is stretched.
        ring = ("ring", [0, 1])
        no = ("ring", [])
        bench = round_bench((3, 1, 1, 1))
        arm = ("arm", "left", 2)
        self.check(True, ROUND, bench, 4, ("part", 1, [ring, ring, arm, ring]))
        self.check(False, ROUND, bench, 4, ("part", 1, [ring, ring, ring, ring]))
        self.check(False, ROUND, bench, 4, ("part", 1, [ring, ring, no, ring]))
        self.check(False, ROUND, round_bench(), 4, ("part", 1, [ring, ring, arm, ring]))
        self.check(False, ROUND, bench, 5, ("part", 1, [ring, ring, arm, ring, ring]))

    def test_one_rest_said(self):
        # The rest of b alone is said besides that of a, so nothing of c and of d is stretched.
        for tree, wanted in ((("ring", [2]), False), (("ring", [3]), False), (("ring", [0, 1]), False)):
            self.check(wanted, ROUND, round_bench(), 4, tree)
            self.check(wanted, ROUND, round_bench(), 4, ("part", 3, [tree] * 4))

    def test_no_rest_said(self):
        # b and c wait for one another; nothing is said of either of them at first, then of one, then of both.
        rows = [("a", "same", (1,)), ("b", "tell", (("c", 1),)), ("c", "tell", (("b", 0),))]
        loop, bench = Loop(97, rows), bench_of(delay=2, width=4)
        ring, arm = ("ring", [0, 1]), ("arm", "arm", 0)
        self.check(True, loop, bench, 3, ring)
        self.check(False, loop, bench, 4, ring)
        self.check(False, loop, bench, 4, ("part", 1, [ring] * 4))
        self.check(False, loop, bench, 4, ("part", 2, [ring] * 4))
        # Only where c's rest is b's and 2 the ring sums to 0; there, with a hold of 2, one of them meets a.
        inner = [("part", 2, [arm if (k - rest) % 4 == 2 else ring for k in range(4)]) for rest in range(4)]
        self.check(True, loop, bench_of(delay=2, hold=2), 4, ("part", 1, inner))
        self.check(False, loop, bench, 4, ("part", 1, inner))
        for rest in range(4):
            for place in range(4):
                wrong = copy.deepcopy(inner)
                wrong[rest][2][place] = ring if (place - rest) % 4 == 2 else ("arm", "none", 0)
                self.check(False, loop, bench_of(delay=2, hold=2), 4, ("part", 1, wrong))

    def test_a_row_on_the_way_back_of_which_nothing_is_said(self):
        # x waits for z, z for y, y for x; at pace 3 the ring sums to 0, with y just one behind x and z two.
        rows = [("x", "same", (("z", 1),)), ("y", "tell", (("x", 0),)), ("z", "sum", (("y", 0), 1))]
        works = [("same", "p", 1, 1), ("tell", "q", 1, 1), ("sum", "p", 1, 2)]
        loop, bench = Loop(97, rows), Bench([("p", 1), ("q", 1)], works)
        ring, meet = ("ring", [1, 2, 0]), ("arm", "p", 0)
        self.check(False, loop, bench, 3, ring)
        self.check(True, loop, bench, 3, ("part", 1, [ring, ("part", 2, [ring, ring, meet]), ring]))
        self.check(False, loop, bench, 3, ("part", 1, [ring, ("part", 2, [ring, ring, ring]), ring]))
        self.check(False, loop, bench, 3, ("part", 1, [ring, ring, ring]))
        self.check(True, loop, bench, 3, ("part", 2, [ring, ring, meet]))
        self.check(False, loop, bench, 3, ("part", 2, [ring, ring, ring]))
        # At pace 4 there is room for one tick more.
        self.check(False, loop, bench, 4, ("part", 2, [ring, ring, ring, meet]))

    def test_stretches_as_the_least_number_that_leaves_the_rest(self):
        # A ring of a tie and one back of nearly the pace, for all rests: good just where the rest is out of the window.
        for delay in range(1, 7):
            for back in range(1, 4):
                rows = [("a", "same", (("b", back),)), ("b", "same", (("a", 0),))]
                loop, bench = Loop(97, rows), bench_of(delay=delay, width=4)
                for pace in range(1, 9):
                    for rest in range(pace):
                        wide = pace * back - 2 * delay
                        wanted = wide < 0 or (rest - delay) % pace > wide
                        met = grounds.good(loop, bench, pace, ("ring", [0, 1]), {0: 0, 1: rest})
                        self.assertEqual(met, wanted)
                        others = [("ring", [1, 0])] * pace
                        every = all((other - delay) % pace > wide for other in range(pace)) or wide < 0
                        self.check(every, loop, bench, pace, ("part", 1, others))


class Arms(Closing):
    def test_an_arm_that_the_bench_has_not(self):
        loop, bench = lone(2, hold=6)
        for name in ("left", "", "arms", "ARM", "same", "a"):
            self.check(False, loop, bench, 1, ("arm", name, 0))
            self.check(False, loop, bench, 1, ("full", name))

    def test_a_hold_above_the_pace(self):
        for hold in range(1, 7):
            for width in range(1, 5):
                loop, bench = lone(1, width, hold)
                for pace in range(1, 8):
                    for rest in range(pace):
                        # Row 0 begins at rest 0, and comes round to itself.
                        wanted = len([k for k in range(hold) if k % pace == rest]) > width
                        self.check(wanted, loop, bench, pace, ("arm", "arm", rest))

    def test_rests_out_of_bounds(self):
        loop, bench = lone(1, hold=6)
        for pace in (1, 2, 3, 5):
            self.check(True, loop, bench, pace, ("arm", "arm", 0))
            self.check(pace < 5, loop, bench, pace, ("arm", "arm", pace - 1))
            for rest in (-1, -pace, pace, pace + 1, 2 * pace, GREAT, -GREAT):
                self.check(False, loop, bench, pace, ("arm", "arm", rest))
        self.check(False, loop, bench, 200, ("arm", "arm", 200))

    def test_just_as_many_as_the_width_and_one_more(self):
        for width in range(1, 5):
            for count in range(1, 8):
                loop, bench = lone(count, width)
                tree = ("arm", "arm", 0)
                for row in range(count - 1, 0, -1):
                    tree = ("part", row, [tree])
                self.check(count > width, loop, bench, 1, tree)

    def test_rows_of_which_the_case_says_nothing_do_not_count(self):
        loop, bench = lone(3)
        self.check(False, loop, bench, 1, ("arm", "arm", 0))
        self.check(True, loop, bench, 1, ("part", 1, [("arm", "arm", 0)]))
        self.check(True, loop, bench, 1, ("part", 2, [("arm", "arm", 0)]))
        self.check(False, loop, bench, 2, ("part", 1, [("arm", "arm", 0), ("arm", "arm", 0)]))
        self.check(False, loop, bench, 2, ("part", 1, [("arm", "arm", 0), ("arm", "arm", 1)]))

    def test_rows_at_other_arms_do_not_count(self):
        for pace in (1, 2):
            self.check(False, ROUND, round_bench(), pace, ("part", 2, [("arm", "right", 0)] * pace))
            self.check(False, ROUND, round_bench(), pace, ("part", 2, [("arm", "left", 0)] * pace))
        self.check(True, ROUND, round_bench(), 1, ("part", 1, [("arm", "left", 0)]))
        self.check(True, ROUND, round_bench(), 1, ("part", 2, [("part", 3, [("arm", "right", 0)])]))

    def test_each_rest_by_itself(self):
        # Row 0 keeps the rests 0 to 2 of five, row 1 two from its rest on: they meet but at the rest 3.
        rows = [("a", "same", (1,)), ("b", "tell", (1,))]
        loop, bench = Loop(97, rows), Bench([("x", 1)], [("same", "x", 1, 3), ("tell", "x", 1, 2)])
        wanted = {0: (0, 1), 1: (1, 2), 2: (2,), 3: (), 4: (0,)}
        for rest in range(5):
            for told in range(5):
                met = grounds.good(loop, bench, 5, ("arm", "x", told), {0: 0, 1: rest})
                self.assertEqual(met, told in wanted[rest])
        branches = [("arm", "x", 0), ("arm", "x", 1), ("arm", "x", 2), ("arm", "x", 0), ("arm", "x", 0)]
        self.check(False, loop, bench, 5, ("part", 1, branches))
        tight = Bench([("x", 1)], [("same", "x", 1, 3), ("tell", "x", 1, 3)])
        self.check(True, loop, tight, 5, ("part", 1, branches))
        for place in range(5):
            for told in range(5):
                one = branches[:place] + [("arm", "x", told)] + branches[place + 1:]
                self.check(grounds.good(loop, tight, 5, one[place], {0: 0, 1: place}), loop, tight, 5, ("part", 1, one))


class Full(Closing):
    def test_just_as_much_as_there_is_and_one_more(self):
        for width in range(1, 5):
            for hold in range(1, 7):
                for count in (1, 2, 5, 12):
                    loop, bench = lone(count, width, hold)
                    for pace in range(1, 8):
                        self.check(count * hold > width * pace, loop, bench, pace, ("full", "arm"))

    def test_by_one(self):
        loop = Loop(97, [("a", "same", (1,)), ("b", "tell", (1,)), ("c", "tell", (1,))])
        for hold, wanted in ((1, False), (2, False), (3, True), (4, True)):
            bench = Bench([("x", 2)], [("same", "x", 6, hold), ("tell", "x", 1, 3)])
            self.check(wanted, loop, bench, 4, ("full", "x"))

    def test_only_rows_at_the_arm_count(self):
        bench = round_bench((6, 6, 1, 1))
        self.check(True, ROUND, bench, 11, ("full", "left"))
        self.check(False, ROUND, bench, 12, ("full", "left"))
        self.check(True, ROUND, bench, 1, ("full", "right"))
        self.check(False, ROUND, bench, 2, ("full", "right"))

    def test_an_arm_at_which_no_row_stands(self):
        bench = Bench([("idle", 1), ("x", 1)], [("same", "x", 1, 6), ("tell", "idle", 1, 6)])
        loop = Loop(97, [("a", "same", (1,))])
        self.check(False, loop, bench, 1, ("full", "idle"))
        self.check(False, loop, bench, 1, ("arm", "idle", 0))
        self.check(True, loop, bench, 1, ("full", "x"))

    def test_what_is_full_is_so_in_each_case(self):
        loop, bench = lone(3, hold=2)
        self.check(True, loop, bench, 5, ("part", 1, [("full", "arm")] * 5))
        self.check(False, loop, bench, 6, ("part", 1, [("full", "arm")] * 6))


class Parts(Closing):
    good = ("full", "arm")
    bad = ("arm", "none", 0)

    def setUp(self):
        self.loop, self.bench = lone(3, hold=3)

    def part(self, wanted, row, branches, pace=2):
        self.check(wanted, self.loop, self.bench, pace, ("part", row, branches))

    def test_of_each_row(self):
        for row, wanted in ((0, False), (1, True), (2, True), (3, False), (12, False), (GREAT, False)):
            self.part(wanted, row, [self.good] * 2)
        # As Python counts from behind, -1 and -2 would be rows of which the case says nothing.
        for row in (-1, -2, -3, -4, -GREAT):
            self.part(False, row, [self.good] * 2)

    def test_of_a_row_twice_on_one_way_down(self):
        for row in (1, 2):
            self.part(False, row, [("part", row, [self.good] * 2)] * 2)
            self.part(False, row, [self.good, ("part", row, [self.good] * 2)])
        self.part(False, 1, [("part", 2, [("part", 1, [self.good] * 2)] * 2)] * 2)
        self.part(False, 1, [("part", 2, [("part", 0, [self.good] * 2)] * 2)] * 2)

    def test_of_a_row_on_two_ways_down(self):
        self.part(True, 1, [("part", 2, [self.good] * 2), ("part", 2, [self.good] * 2)])
        self.part(True, 2, [("part", 1, [self.good] * 2), self.good])

    def test_branches_too_few_and_too_many(self):
        for pace in (1, 2, 3, 8):
            for count in range(10):
                self.part(count == pace, 1, [self.good] * count, pace)

    def test_one_branch_that_is_not_good(self):
        for place in range(4):
            branches = [self.good] * place + [self.bad] + [self.good] * (3 - place)
            self.part(False, 1, branches, 4)
            self.part(False, 2, [self.good] * 3 + [("part", 1, branches)], 4)
        self.part(True, 1, [self.good] * 4, 4)
        self.part(True, 2, [self.good] * 3 + [("part", 1, [self.good] * 4)], 4)

    def test_what_is_good_by_itself_stands_without_a_part(self):
        self.check(True, self.loop, self.bench, 2, self.good)
        self.check(False, self.loop, self.bench, 2, self.bad)

    def test_a_loop_of_one_row_has_none(self):
        loop, bench = lone(1, hold=6)
        for row in (-1, 0, 1):
            self.check(False, loop, bench, 2, ("part", row, [self.good] * 2))
        self.check(True, loop, bench, 2, self.good)

    def test_a_branch_is_good_in_its_own_case(self):
        # What a branch says of the rests holds in it alone, and not in the next one.
        rows = [("a", "same", (1,)), ("b", "same", (1,)), ("c", "same", (1,))]
        loop, bench = Loop(97, rows), bench_of(hold=1)
        meet = ("arm", "arm", 0)
        inner = ("part", 2, [meet, ("arm", "arm", 1)])
        self.check(True, loop, bench, 2, ("part", 1, [meet, inner]))
        self.check(False, loop, bench, 2, ("part", 1, [inner, meet]))
        self.check(False, loop, bench, 2, ("part", 1, [inner, inner]))
        self.check(True, loop, bench, 2, ("part", 2, [meet, ("part", 1, [meet, ("arm", "arm", 1)])]))


class DeepTrees(Closing):
    def deep(self, order, leaf):
        tree = leaf
        for row in reversed(order):
            tree = ("part", row, [tree])
        return tree

    def test_as_deep_as_there_are_rows(self):
        loop, bench = lone(12, width=4)
        fine = Bench([("x", 4), ("y", 4), ("z", 4)], [("same", "x", 1, 1)])
        leaf = ("arm", "arm", 0)
        self.check(True, loop, bench, 1, self.deep(range(1, 12), leaf))
        self.check(True, loop, bench, 1, self.deep(range(11, 0, -1), leaf))
        self.check(True, loop, bench, 1, self.deep((4, 9, 2, 11), leaf))
        self.check(False, loop, bench, 1, self.deep((4, 9, 2), leaf))
        self.check(True, loop, fine, 1, self.deep(range(1, 12), ("arm", "x", 0)))
        self.check(False, loop, fine, 1, self.deep(range(1, 12), ("arm", "y", 0)))

    def test_fourteen_within_one_another(self):
        loop, bench = lone(12, width=4)
        leaf = ("full", "arm")
        self.assertEqual(grounds.count_and_depth(self.deep(range(1, 14), leaf)), (14, 14))
        for order in (range(1, 14), range(13, 0, -1), [1] + list(range(1, 13)), list(range(1, 12)) + [5, 6], [0] * 13):
            self.check(False, loop, bench, 1, self.deep(order, leaf))

    def test_nearly_four_thousand_in_all(self):
        loop, bench = lone(12, width=4, hold=3)
        tree = ("full", "arm")
        for row in range(1, 11):
            tree = ("part", row, [tree] * 2)
        self.assertEqual(grounds.count_and_depth(tree), (2047, 11))
        self.check(True, loop, bench, 2, tree)
        wide = [("part", 2, [("full", "arm")] * 8) for rest in range(8)]
        self.check(True, loop, bench, 8, ("part", 1, wide))
        self.check(False, loop, bench, 9, ("part", 1, wide + [wide[0]]))
        wide[7][2][7] = ("ring", [])
        self.check(False, loop, bench, 8, ("part", 1, wide))


class Paces(Closing):
    def test_pace_one(self):
        loop, bench = lone(2)
        self.check(True, loop, bench, 1, ("full", "arm"))
        self.check(True, loop, bench, 1, ("part", 1, [("arm", "arm", 0)]))
        self.check(False, loop, bench, 1, ("part", 1, [("arm", "arm", 1)]))
        # By pace 1 all rests are 0, and no stretch is rounded.
        self.check(True, ROUND, round_bench(), 1, ("part", 1, [("ring", [0, 1])]))
        slow = Loop(97, [("a", "same", (("b", 4),)), ("b", "tell", (("a", 0),))])
        self.check(False, slow, round_bench(), 1, ("part", 1, [("ring", [0, 1])]))

    def test_pace_two_hundred(self):
        loop, bench = lone(12, hold=6, delay=6)
        for tree in (("full", "arm"), ("arm", "arm", 0), ("arm", "arm", 199), ("ring", [0])):
            self.check(False, loop, bench, 200, tree)
        meet = [("arm", "arm", min(rest, 5)) for rest in range(200)]
        self.check(False, loop, bench, 200, ("part", 1, meet))
        rows = [("a", "same", (("b", 1),)), ("b", "same", (("a", 0),))]
        ring = [("ring", [0, 1])] * 200
        self.check(False, Loop(97, rows), bench_of(delay=6), 200, ("part", 1, ring))

    def test_greater_paces_with_a_tree_that_closes(self):
        loop, bench = lone(12, hold=6)
        self.check(True, loop, bench, 71, ("full", "arm"))
        self.check(False, loop, bench, 72, ("full", "arm"))
        self.check(True, loop, bench, 71, ("part", 7, [("full", "arm")] * 71))


class AgainstAnotherWay(Closing):
    def mended(self, chance, tree, loop, bench, pace):
        """The tree with one thing changed somewhere."""
        if tree[0] == "part" and chance.random() < 0.85:
            branches = list(tree[2])
            place = chance.randrange(len(branches))
            branches[place] = self.mended(chance, branches[place], loop, bench, pace)
            return ("part", tree[1], branches)
        count = len(ties(loop, bench))
        places = [chance.randint(-1, count) for each in range(chance.randint(0, 4))]
        leaves = [("ring", places), ("full", chance.choice(bench.arms() + ["none"]))]
        leaves.append(("arm", chance.choice(bench.arms() + ["none"]), chance.randint(-1, pace)))
        leaves.append(("part", chance.randint(-1, len(loop.rows())), [tree] * pace))
        return chance.choice(leaves)

    def test_trees_that_close_and_trees_that_differ_by_one(self):
        seen = {True: 0, False: 0}
        for seed in range(250):
            chance = random.Random(seed)
            loop, bench = grounds.tight(seed, 2, 7)
            for pace in range(1, 16):
                met = looked(loop, bench, pace)
                if met[0] != "shut":
                    continue
                self.check(True, loop, bench, pace, met[1])
                if grounds.count_and_depth(met[1])[0] < 300:
                    for each in range(3):
                        tree = self.mended(chance, met[1], loop, bench, pace)
                        wanted = grounds.good(loop, bench, pace, tree, {0: 0})
                        self.check(wanted, loop, bench, pace, tree)
                        seen[wanted] += 1
        self.assertGreater(min(seen.values()), 500)

    def test_leaves_of_all_sorts(self):
        seen = {True: 0, False: 0}
        for seed in range(600):
            chance = random.Random(seed)
            loop, bench = grounds.tight(seed, 1, 5)
            pace = chance.randint(1, 6)
            for each in range(6):
                tree = self.mended(chance, ("ring", []), loop, bench, pace)
                wanted = grounds.good(loop, bench, pace, tree, {0: 0})
                self.check(wanted, loop, bench, pace, tree)
                seen[wanted] += 1
        self.assertGreater(min(seen.values()), 200)

    def test_nothing_that_fits_has_a_tree_that_closes(self):
        for seed in range(200):
            chance = random.Random(seed)
            loop, bench = grounds.tight(seed, 2, 4)
            pace = chance.randint(2, 4)
            starts = grounds.some_plan(loop, bench, pace)
            if starts is not None:
                for each in range(20):
                    tree = self.mended(chance, ("ring", []), loop, bench, pace)
                    self.check(False, loop, bench, pace, tree)


class Refused(unittest.TestCase):
    def test_no_arm(self):
        trees = (("ring", []), ("ring", [0]), ("arm", "a", 0), ("arm", "none", 0), ("full", "a"), ("part", 1, []))
        for word in WORDS:
            bench = samples.bench_without(word)
            for rows in (EACH, [("a", word, (1,) * samples.WANTS[word])]):
                for tree in trees:
                    for pace in (1, 200):
                        with self.assertRaises(NoArm) as caught:
                            closes(Loop(97, rows), bench, pace, tree)
                        self.assertIs(type(caught.exception), NoArm)

    def test_nothing_else_is_refused(self):
        for tree in (("ring", [GREAT]), ("arm", "", -GREAT), ("full", ""), ("part", GREAT, []), ("part", -1, [])):
            self.assertIs(closes(ROUND, round_bench(), 3, tree), False)


if __name__ == "__main__":
    unittest.main()
