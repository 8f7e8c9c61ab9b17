"""Points 2, 3, 12 and 13: benches, their refusals, work, width and arms."""

import copy
import unittest

from lapwork import errors
from lapwork.benches import Bench
from samples import GREAT, NAMES, WORDS

ARMS = [("adder", 2), ("multer", 1), ("door", 4), ("z", 3)]
WORKS = [
    ("sum", "adder", 1, 1), ("times", "multer", 6, 2), ("take", "door", 1, 6), ("tell", "door", 2, 1),
    ("less", "adder", 3, 4),
]
NO_NAMES = [
    "", "abcdefghijklm", "a" * 40, "A", "aB", "a1", "1", "a b", " a", "a ", "a_b", "a-b", "a@", "a\n", "\n", "~", "=",
]
BEYOND = (-GREAT, -7, -1, 0, 7, 8, GREAT, 10 ** 5000)


def arms_of(count, width=1):
    return [(name, width) for name in NAMES[:count]]


class Case(unittest.TestCase):
    def refused(self, kind, arms, works):
        handed = (copy.deepcopy(arms), copy.deepcopy(works))
        with self.assertRaises(kind) as caught:
            Bench(*handed)
        self.assertIs(type(caught.exception), kind)
        self.assertEqual(handed, (arms, works))

    def taken(self, arms, works):
        handed = (copy.deepcopy(arms), copy.deepcopy(works))
        bench = Bench(*handed)
        self.holds(bench, arms, works)
        self.assertEqual(handed, (arms, works))
        return bench

    def holds(self, bench, arms, works):
        self.assertEqual(bench.arms(), [arm[0] for arm in arms])
        self.assertEqual(bench.words(), [task[0] for task in works])
        for name, width in arms:
            self.assertEqual(bench.width(name), width)
        for word, arm, delay, hold in works:
            self.assertEqual(bench.work(word), (arm, delay, hold))
        for word in set(WORDS) - {task[0] for task in works}:
            self.assertRaises(errors.NoArm, bench.work, word)


class Arms(Case):
    def test_names_of_one_to_twelve_letters(self):
        for length in range(1, 13):
            self.taken([("z" * length, 1)], [("sum", "z" * length, 1, 1)])
        for name in ("a", "abcdefghijkl", "mnopqrstuvwx", "sum", "take"):
            self.taken([(name, 1)], [])

    def test_texts_that_are_no_names(self):
        for name in NO_NAMES:
            with self.subTest(name=name):
                self.refused(errors.BadName, [(name, 1)], [])
                self.refused(errors.BadName, arms_of(5) + [(name, 1)], [])

    def test_a_name_that_an_arm_above_has(self):
        self.refused(errors.Twice, [("a", 1), ("a", 1)], [])
        self.refused(errors.Twice, [("a", 1), ("a", 2)], [])
        self.refused(errors.Twice, arms_of(5) + [("a", 1)], [])
        self.refused(errors.Twice, [("b", 1), ("a", 1), ("a", 1)], [])

    def test_names_that_are_alike_but_not_the_same(self):
        self.taken([("a", 1), ("aa", 2), ("ab", 3), ("ba", 4)], [])

    def test_widths(self):
        for width in (1, 2, 3, 4):
            self.taken([("a", width)], [])
            self.taken(arms_of(5) + [("z", width)], [])

    def test_widths_beyond_the_bounds(self):
        for width in (0, 5, 6) + BEYOND:
            self.refused(errors.BadWidth, [("a", width)], [])
            self.refused(errors.BadWidth, arms_of(5) + [("z", width)], [])

    def test_one_to_six_arms(self):
        for count in range(1, 7):
            self.taken(arms_of(count), [])

    def test_no_arm_and_more_than_six(self):
        for count in (0, 7, 8, 12):
            self.refused(errors.BadArms, arms_of(count), [])


class Works(Case):
    def test_each_word(self):
        for word in WORDS:
            self.taken([("a", 1)], [(word, "a", 1, 1)])
        self.taken([("a", 1)], [(word, "a", 2, 3) for word in WORDS])

    def test_a_bench_without_works(self):
        bench = self.taken(ARMS, [])
        for word in WORDS:
            self.assertRaises(errors.NoArm, bench.work, word)

    def test_words_that_are_none(self):
        for word in ("", "Sum", "sums", "su", "sum ", " sum", "a", "deed", "sum\n"):
            self.refused(errors.NoDeed, [("a", 1)], [(word, "a", 1, 1)])
            self.refused(errors.NoDeed, [("a", 1)], [("sum", "a", 1, 1), (word, "a", 1, 1)])

    def test_a_word_that_a_work_above_has(self):
        self.refused(errors.Twice, [("a", 1)], [("sum", "a", 1, 1), ("sum", "a", 1, 1)])
        self.refused(errors.Twice, ARMS, [("sum", "adder", 1, 1), ("take", "door", 1, 1), ("sum", "door", 2, 2)])
        self.refused(errors.Twice, [("a", 1)], [(word, "a", 1, 1) for word in WORDS] + [("take", "a", 1, 1)])

    def test_an_arm_that_is_not_there(self):
        for arm in ("b", "", "A", "aa", "sum", "a "):
            self.refused(errors.NoArm, [("a", 1)], [("sum", arm, 1, 1)])
            self.refused(errors.NoArm, [("a", 1)], [("take", "a", 1, 1), ("sum", arm, 1, 1)])

    def test_delays(self):
        for delay in range(1, 7):
            self.taken([("a", 1)], [("sum", "a", delay, 1)])
        for delay in BEYOND:
            self.refused(errors.BadDelay, [("a", 1)], [("sum", "a", delay, 1)])
            self.refused(errors.BadDelay, [("a", 1)], [("take", "a", 1, 1), ("sum", "a", delay, 1)])

    def test_holds(self):
        for hold in range(1, 7):
            self.taken([("a", 1)], [("sum", "a", 1, hold)])
        for hold in BEYOND:
            self.refused(errors.BadHold, [("a", 1)], [("sum", "a", 1, hold)])
            self.refused(errors.BadHold, [("a", 1)], [("take", "a", 1, 1), ("sum", "a", 1, hold)])


class TwoFaultsAtOnce(Case):
    def test_within_one_arm(self):
        self.refused(errors.BadName, [("A", 0)], [])
        self.refused(errors.BadName, [("A", 5)], [])
        self.refused(errors.Twice, [("a", 1), ("a", 0)], [])
        self.refused(errors.Twice, [("a", 1), ("a", 5)], [])
        # The name is looked at ahead of whether it stands above.
        self.refused(errors.BadName, [("A", 1), ("A", 1)], [])

    def test_arm_after_arm(self):
        faults = [(errors.BadName, ("A", 1)), (errors.Twice, ("a", 1)), (errors.BadWidth, ("b", 0))]
        for kind, arm in faults:
            for other in (("C", 1), ("a", 2), ("c", 5)):
                with self.subTest(arm=arm, other=other):
                    self.refused(kind, [("a", 1), arm, other], [])

    def test_arms_ahead_of_their_count(self):
        for kind, arm in ((errors.BadName, ("A", 1)), (errors.Twice, ("a", 1)), (errors.BadWidth, ("z", 0))):
            self.refused(kind, arms_of(6) + [arm], [])
            self.refused(kind, arms_of(7) + [arm], [])
        self.refused(errors.BadName, [("A", 1)] + arms_of(6), [])
        self.refused(errors.BadWidth, [("z", 5)] + arms_of(6), [])

    def test_the_count_of_arms_ahead_of_works(self):
        bad = [("no", "a", 1, 1), ("sum", "z", 1, 1), ("sum", "a", 0, 1), ("sum", "a", 1, 7)]
        for task in bad:
            self.refused(errors.BadArms, [], [task])
            self.refused(errors.BadArms, arms_of(7), [task])
        self.refused(errors.BadArms, arms_of(7), [("sum", "a", 1, 1), ("sum", "a", 1, 1)])

    def test_arms_ahead_of_works(self):
        for kind, arm in ((errors.BadName, ("A", 1)), (errors.Twice, ("a", 1)), (errors.BadWidth, ("z", 0))):
            for task in (("no", "a", 1, 1), ("sum", "none", 1, 1), ("sum", "a", 7, 1), ("sum", "a", 1, 0)):
                self.refused(kind, [("a", 1), arm], [task])

    def test_within_one_work(self):
        arms = [("a", 1)]
        self.refused(errors.NoDeed, arms, [("no", "z", 0, 0)])
        self.refused(errors.NoDeed, arms, [("no", "a", 7, 1)])
        self.refused(errors.NoDeed, arms, [("no", "a", 1, 7)])
        self.refused(errors.Twice, arms, [("sum", "a", 1, 1), ("sum", "z", 1, 1)])
        self.refused(errors.Twice, arms, [("sum", "a", 1, 1), ("sum", "a", 0, 1)])
        self.refused(errors.Twice, arms, [("sum", "a", 1, 1), ("sum", "a", 1, 0)])
        self.refused(errors.NoArm, arms, [("sum", "z", 0, 1)])
        self.refused(errors.NoArm, arms, [("sum", "z", 1, 7)])
        self.refused(errors.BadDelay, arms, [("sum", "a", 0, 0)])
        self.refused(errors.BadDelay, arms, [("sum", "a", 7, 7)])

    def test_work_after_work(self):
        faults = [
            (errors.NoDeed, ("no", "a", 1, 1)), (errors.Twice, ("sum", "a", 1, 1)), (errors.NoArm, ("less", "z", 1, 1)),
            (errors.BadDelay, ("less", "a", 0, 1)), (errors.BadHold, ("less", "a", 1, 7)),
        ]
        late = [("none", "a", 1, 1), ("sum", "a", 1, 1), ("most", "z", 1, 1), ("most", "a", 7, 1), ("most", "a", 1, 0)]
        for kind, task in faults:
            for other in late:
                with self.subTest(task=task, other=other):
                    self.refused(kind, [("a", 1)], [("sum", "a", 1, 1), task, other])

    def test_a_word_is_not_counted_twice_over_a_refused_one(self):
        self.refused(errors.NoDeed, [("a", 1)], [("no", "a", 1, 1), ("no", "a", 1, 1)])
        self.refused(errors.NoArm, [("a", 1)], [("sum", "z", 1, 1), ("sum", "z", 1, 1)])


class WhatIsTold(Case):
    def test_as_handed_in(self):
        bench = self.taken(ARMS, WORKS)
        self.assertEqual(bench.arms(), ["adder", "multer", "door", "z"])
        self.assertEqual(bench.work("take"), ("door", 1, 6))
        self.assertEqual(bench.work("less"), ("adder", 3, 4))
        self.assertEqual([bench.width(name) for name in bench.arms()], [2, 1, 4, 3])

    def test_arms_stand_in_the_order_handed_in(self):
        for names in ("fedcba", "abcdef", "cafebd"):
            bench = Bench([(name, 1) for name in names], [])
            self.assertEqual(bench.arms(), list(names))

    def test_kinds(self):
        bench = Bench(ARMS, WORKS)
        self.assertIs(type(bench.arms()), list)
        self.assertIs(type(bench.work("sum")), tuple)
        self.assertEqual([type(part) for part in bench.work("sum")], [str, int, int])
        self.assertIs(type(bench.width("z")), int)

    def no_arm(self, ask, text):
        with self.assertRaises(errors.NoArm) as caught:
            ask(text)
        self.assertIs(type(caught.exception), errors.NoArm)

    def test_no_work(self):
        bench = Bench(ARMS, WORKS)
        for word in ("pick", "same", "most", "least", "", "Sum", "sum ", "no", "adder", "door"):
            self.no_arm(bench.work, word)
        self.holds(bench, ARMS, WORKS)

    def test_no_width(self):
        bench = Bench(ARMS, WORKS)
        for name in ("", "a", "Adder", "adder ", "sum", "take", "zz"):
            self.no_arm(bench.width, name)
        self.holds(bench, ARMS, WORKS)


class WhoseItIs(Case):
    def test_changing_the_lists_handed_in_changes_nothing(self):
        arms, works = list(ARMS), list(WORKS)
        bench = Bench(arms, works)
        arms[0] = ("adder", 4)
        works[0] = ("sum", "door", 5, 5)
        self.holds(bench, ARMS, WORKS)
        arms.append(("more", 1))
        works.append(("pick", "z", 1, 1))
        self.holds(bench, ARMS, WORKS)
        arms.clear()
        works.clear()
        self.holds(bench, ARMS, WORKS)

    def test_lists_in_place_of_tuples_are_not_kept(self):
        arms, works = [["a", 2]], [["sum", "a", 3, 4]]
        bench = Bench(arms, works)
        arms[0][1] = 4
        works[0][2] = 6
        self.assertEqual((bench.arms(), bench.width("a"), bench.work("sum")), (["a"], 2, ("a", 3, 4)))
        self.assertIs(type(bench.work("sum")), tuple)

    def test_changing_a_list_that_was_told_changes_nothing(self):
        bench = Bench(list(ARMS), list(WORKS))
        told = bench.arms()
        told.reverse()
        told.append("more")
        self.holds(bench, ARMS, WORKS)
        self.assertRaises(errors.NoArm, bench.width, "more")
        bench.arms().clear()
        bench.words().clear()
        self.holds(bench, ARMS, WORKS)

    def test_what_was_told_stays_when_more_is_asked(self):
        bench = Bench(list(ARMS), list(WORKS))
        told = bench.arms()
        bench.arms().pop()
        bench.work("sum")
        self.assertEqual(told, [arm[0] for arm in ARMS])

    def test_two_benches_share_nothing(self):
        one = Bench(list(ARMS), list(WORKS))
        other = Bench([("adder", 4)], [("sum", "adder", 5, 6), ("pick", "adder", 1, 1)])
        self.holds(one, ARMS, WORKS)
        self.holds(other, [("adder", 4)], [("sum", "adder", 5, 6), ("pick", "adder", 1, 1)])


if __name__ == "__main__":
    unittest.main()
