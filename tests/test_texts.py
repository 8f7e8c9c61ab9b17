"""Points 2, 3, 32 and 33: loops and benches as texts."""

import unittest

import samples
from lapwork.benches import Bench
from lapwork.errors import (
    BadArms, BadBack, BadCount, BadDelay, BadHold, BadName, BadNumber, BadRows, BadText, BadWidth, LapError, NoArm,
    NoDeed, NoMeasure, NoRow, TooEarly, Twice,
)
from lapwork.loops import Loop
from lapwork.texts import bench_read, bench_shown, loop_read, loop_shown
from samples import EACH, GREAT, TOP, WORDS

EACH_TEXT = """measure 97
x = take
y = take
acc = sum acc@1 x
gap = less x y@6
prod = times gap late@2
low = least prod@1 x@3
high = most low high@5
which = pick high@4 acc 77
copy = same which
out = tell copy@1
late = sum out@2 999999999999999999999999999999999999999999999999999999999999
last = tell late"""

ARMS = [("door", 1), ("adder", 2), ("x", 4)]
WORKS = [("take", "door", 1, 1), ("sum", "adder", 3, 2), ("tell", "door", 6, 6), ("pick", "x", 2, 5)]
BENCH_TEXT = """arm door 1
arm adder 2
arm x 4
work take door 1 1
work sum adder 3 2
work tell door 6 6
work pick x 2 5"""


def parts_of(bench):
    """All that can be asked of a bench, with the words in the order in which bench_shown has them."""
    words = [line.split(" ")[1] for line in bench_shown(bench).split("\n") if line.startswith("work ")]
    return [(name, bench.width(name)) for name in bench.arms()], [(word,) + bench.work(word) for word in words]


class Case(unittest.TestCase):
    def refused(self, kind, ask, text):
        with self.assertRaises(LapError) as caught:
            ask(text)
        self.assertIs(type(caught.exception), kind, text)
        return caught.exception

    def bad_loop(self, row, text):
        self.assertEqual(self.refused(BadText, loop_read, text).row, row, text)

    def bad_bench(self, row, text):
        self.assertEqual(self.refused(BadText, bench_read, text).row, row, text)

    def read(self, text, measure, rows):
        loop = loop_read(text)
        self.assertIs(type(loop), Loop)
        self.assertEqual((loop.measure, loop.rows()), (measure, rows))
        self.assertEqual(loop_shown(loop), text)
        self.assertEqual(loop_shown(Loop(measure, rows)), text)


class LoopsShownAndRead(Case):
    def test_each_deed_and_each_back(self):
        self.read(EACH_TEXT, 97, EACH)

    def test_one_row(self):
        self.read("measure 7\na = take", 7, [("a", "take", ())])
        self.read("measure 7\na = same 5", 7, [("a", "same", (5,))])
        self.read("measure 7\na = pick a@1 0 a@6", 7, [("a", "pick", (("a", 1), 0, ("a", 6)))])

    def test_backs(self):
        for back in range(1, 7):
            self.read(f"measure 7\na = same a@{back}", 7, [("a", "same", (("a", back),))])
        self.read("measure 7\na = take\nb = same a", 7, [("a", "take", ()), ("b", "same", (("a", 0),))])

    def test_numbers(self):
        for number in (0, 1, 9, 10, 100, 10 ** 59 - 1, 10 ** 59, TOP):
            self.read(f"measure 7\na = sum {number} 3", 7, [("a", "sum", (number, 3))])

    def test_measures(self):
        for measure in (2, 9, 10, 11, 10 ** 59, TOP, GREAT):
            self.read(f"measure {measure}\na = take", measure, [("a", "take", ())])

    def test_words_as_names(self):
        self.read("measure 7\nmeasure = take", 7, [("measure", "take", ())])
        self.read("measure 7\nsum = sum sum@1 take@1\ntake = take", 7,
                  [("sum", "sum", (("sum", 1), ("take", 1))), ("take", "take", ())])
        self.read("measure 7\nabcdefghijkl = tell zz@2\nzz = take", 7,
                  [("abcdefghijkl", "tell", (("zz", 2),)), ("zz", "take", ())])

    def test_each_letter_and_each_figure(self):
        for letter in "abcdefghijklmnopqrstuvwxyz":
            rows = [(letter, "sum", ((letter, 1), (letter, 2)))]
            self.read(f"measure 7\n{letter} = sum {letter}@1 {letter}@2", 7, rows)
            rows = [(letter, "take", ()), ("me" + letter, "tell", ((letter, 0),))]
            self.read(f"measure 7\n{letter} = take\nme{letter} = tell {letter}", 7, rows)
        for figure in range(1, 10):
            self.read(f"measure 1{figure}0\na = same {figure}", 100 + 10 * figure, [("a", "same", (figure,))])

    def test_some_loops(self):
        for seed in range(300):
            loop = samples.some_loop(seed)
            text = loop_shown(loop)
            self.assertLessEqual(len(text), 4000)
            again = loop_read(text)
            self.assertEqual((again.measure, again.rows()), (loop.measure, loop.rows()))
            self.assertEqual(loop_shown(again), text)
            for name in "abcdefghijkl":
                self.assertEqual(again.deepest(name), loop.deepest(name))

    def test_shown_by_hand(self):
        rows = [("a", "less", (("b", 2), 40)), ("b", "tell", (("a", 0),))]
        self.assertEqual(loop_shown(Loop(12, rows)), "measure 12\na = less b@2 40\nb = tell a")

    def test_the_longest_loop(self):
        rows = [("abcdefghijk" + name, "pick", (TOP, ("abcdefghijk" + name, 6), TOP)) for name in samples.NAMES]
        loop = Loop(GREAT, rows)
        self.assertEqual(loop_read(loop_shown(loop)).rows(), rows)


class FormsOfLoops(Case):
    def test_texts_without_rows(self):
        self.bad_loop(0, "")
        self.bad_loop(0, "\n")
        self.bad_loop(0, "\nmeasure 7")
        self.bad_loop(0, " ")

    def test_line_ends(self):
        self.bad_loop(1, "measure 7\n")
        self.bad_loop(2, "measure 7\na = take\n")
        self.bad_loop(13, EACH_TEXT + "\n")
        self.bad_loop(2, "measure 7\na = take\n\n")
        self.bad_loop(2, "measure 7\na = take\n\nb = take")
        self.bad_loop(1, "measure 7\n\na = take")

    def test_the_first_row(self):
        for line in ("measure", "measure ", "measure  7", " measure 7", "measure 7 ", "measure 7 8", "Measure 7", "measur 7",
                     "measures 7", "measure x", "measure -7", "measure +7", "measure 07", "measure 00", "measure 7.", "7",
                     "measure 7x", "measure x7", "measure = 7", "a = take", "measure @7", "measure 1e3", "measure 1_0",
                     "measure=7", "measure = take", "measure a@1", "measure\t7"):
            self.bad_loop(0, line)
            self.bad_loop(0, line + "\na = take")
            self.bad_loop(0, line + "\nno form\n")

    def test_measure_a_second_time(self):
        self.bad_loop(1, "measure 7\nmeasure 7")
        self.bad_loop(2, "measure 7\na = take\nmeasure 8\nb = take")

    def test_rows(self):
        for line in ("a", "a =", "a = ", "=", "= take", " = take", "a take", "a == take", "a = = take", "a= take", "a =take",
                     "a=take", "A = take", "a = Take", "aB = take", "a1 = take", "1 = take", "a = 1", "a = take1", "a = @",
                     "a@1 = take", "a = take@1", "a_b = take", "a-b = take", "a. = take", "~ = take", "a = ~", "take",
                     "a : take", "a = take =", "# a = take", "a = sum(1, 2)", "a = sum 1, 2", "a = sum 1 2;"):
            self.bad_loop(1, "measure 7\n" + line)
            self.bad_loop(2, "measure 7\nz = take\n" + line + "\nb = take")

    def test_blanks(self):
        for line in (" a = same 1", "a  = same 1", "a =  same 1", "a = same  1", "a = same 1 ", "a = same 1  ", "  ", " ",
                     "a = take ", "a\t= take", "a = same\t1", "a = sum 1  2"):
            self.bad_loop(1, "measure 7\n" + line)

    def test_reads(self):
        for read in ("@", "@1", "a@", "a@0", "a@00", "a@01", "a@-1", "a@+1", "a@x", "a@1@1", "a@@1", "a@1x", "a@ 1", "a @1",
                     "A", "aB", "a1", "1a", "+1", "-1", "00", "01", "007", "1.0", "1e3", "1_0", "0x1", "A@1", "a1@1", "1@1",
                     "a.b", "(a, 1)", "'a'", "~", "!", "=", "a=", "1,", "", " "):
            self.bad_loop(1, f"measure 7\na = same {read}")
            self.bad_loop(2, f"measure 7\na = take\nb = sum a {read}\nc = sum {read} a")

    def test_how_many_figures(self):
        self.refused(NoMeasure, loop_read, "measure " + "9" * 61 + "\na = take")
        self.bad_loop(0, "measure " + "9" * 62 + "\na = take")
        self.bad_loop(0, "measure 1" + "0" * 61 + "\na = take")
        self.refused(BadNumber, loop_read, "measure 7\na = same " + "9" * 61)
        self.refused(BadNumber, loop_read, "measure 7\na = same 1" + "0" * 60)
        self.bad_loop(1, "measure 7\na = same " + "9" * 62)
        self.bad_loop(1, "measure 7\na = same " + "9" * 500)
        self.refused(BadBack, loop_read, "measure 7\na = same a@" + "9" * 61)
        self.bad_loop(1, "measure 7\na = same a@" + "9" * 62)

    def test_names_of_any_length_are_of_the_form(self):
        self.refused(BadName, loop_read, "measure 7\n" + "a" * 13 + " = take")
        self.refused(BadName, loop_read, "measure 7\n" + "a" * 3000 + " = take")
        self.refused(NoDeed, loop_read, "measure 7\na = " + "t" * 3000)
        self.refused(NoRow, loop_read, "measure 7\na = same " + "b" * 3000)
        self.refused(NoRow, loop_read, "measure 7\na = same " + "b" * 2000 + "@1")

    def test_the_first_row_that_is_of_no_form(self):
        self.bad_loop(1, "measure 7\nno form\na = take\nno form")
        self.bad_loop(3, "measure 7\na = take\nb = take\nno form\nno form")

    def test_signs_beyond_the_alphabet(self):
        for sign in "\u00e9\u0661\u00b2\u0430\r\x0b\x0c\x1c\x85\u2028":
            self.bad_loop(1, "measure 7\na = same " + sign)
            self.bad_loop(1, "measure 7\n" + sign + " = take")
            self.bad_loop(0, "measure 7" + sign + "\na = take")


class WhatALoopRefuses(Case):
    def test_each(self):
        cases = (
            (NoMeasure, "measure 0\na = take"), (NoMeasure, "measure 1\na = take"),
            (NoMeasure, "measure 1" + "0" * 59 + "1\na = take"), (BadRows, "measure 7"),
            (BadRows, "measure 7" + "".join([f"\n{name} = take" for name in "abcdefghijklm"])),
            (BadName, "measure 7\nabcdefghijklm = take"), (Twice, "measure 7\na = take\na = take"),
            (NoDeed, "measure 7\na = nothing"), (BadCount, "measure 7\na = take 1"), (BadCount, "measure 7\na = sum 1"),
            (BadCount, "measure 7\na = sum 1 2 3"), (BadCount, "measure 7\na = same"),
            (BadNumber, "measure 7\na = same 1" + "0" * 60), (NoRow, "measure 7\na = same b"),
            (NoRow, "measure 7\na = same b@7"), (BadBack, "measure 7\na = same a@7"),
            (BadBack, "measure 7\na = same a@10"), (TooEarly, "measure 7\na = same a"),
            (TooEarly, "measure 7\na = same b\nb = take"),
        )
        for kind, text in cases:
            self.refused(kind, loop_read, text)

    def test_in_the_order_of_loops(self):
        self.refused(NoMeasure, loop_read, "measure 1")
        self.refused(NoMeasure, loop_read, "measure 1\na = nothing")
        self.refused(NoDeed, loop_read, "measure 7\na = nothing b\na = take 1")
        self.refused(Twice, loop_read, "measure 7\na = take\na = nothing")

    def test_behind_the_forms_of_all_rows(self):
        self.bad_loop(1, "measure 1\nno form")
        self.bad_loop(2, "measure 0\na = nothing 1\nno form")
        self.bad_loop(3, "measure 7\na = take\na = take\n")
        self.bad_loop(14, "measure 7" + "".join([f"\n{name} = take" for name in "abcdefghijklm"]) + "\n")
        self.bad_loop(2, "measure 7\nabcdefghijklm = same 1" + "0" * 60 + "\nb = same a@0")


class BenchesShownAndRead(Case):
    def test_by_hand(self):
        self.assertEqual(bench_shown(Bench(ARMS, WORKS)), BENCH_TEXT)
        bench = bench_read(BENCH_TEXT)
        self.assertIs(type(bench), Bench)
        self.assertEqual(bench.arms(), ["door", "adder", "x"])
        self.assertEqual([bench.width(name) for name in bench.arms()], [1, 2, 4])
        self.assertEqual([bench.work(task[0]) for task in WORKS], [task[1:] for task in WORKS])
        self.assertEqual(bench_shown(bench), BENCH_TEXT)
        with self.assertRaises(NoArm):
            bench.work("times")

    def test_without_works(self):
        self.assertEqual(bench_shown(Bench([("a", 3)], [])), "arm a 3")
        bench = bench_read("arm a 3")
        self.assertEqual((bench.arms(), bench.width("a"), bench_shown(bench)), (["a"], 3, "arm a 3"))

    def test_words_as_names(self):
        text = "arm work 1\narm arm 2\narm sum 3\nwork sum work 1 1\nwork tell sum 2 2\nwork take arm 3 3"
        self.assertEqual(bench_shown(bench_read(text)), text)
        self.assertEqual(bench_read(text).work("sum"), ("work", 1, 1))
        self.assertEqual(bench_read(text).work("tell"), ("sum", 2, 2))

    def test_every_order_stays(self):
        arms = [("z", 1), ("a", 2), ("m", 3)]
        works = [(word, "zam"[place % 3], 1 + place % 6, 6 - place % 6) for place, word in enumerate(WORDS)]
        for turned in range(9):
            bench = Bench(arms[turned % 3:] + arms[:turned % 3], works[turned:] + works[:turned])
            lines = bench_shown(bench).split("\n")
            self.assertEqual([line.split(" ")[1] for line in lines],
                             [arm[0] for arm in arms[turned % 3:] + arms[:turned % 3]]
                             + [task[0] for task in works[turned:] + works[:turned]])

    def test_some_benches(self):
        for seed in range(200):
            bench = samples.some_bench(seed)
            text = bench_shown(bench)
            again = bench_read(text)
            self.assertEqual(parts_of(again), parts_of(bench))
            self.assertEqual(bench_shown(again), text)
            self.assertEqual(len(parts_of(again)[1]), 9)


class FormsOfBenches(Case):
    def test_texts_without_rows(self):
        self.bad_bench(0, "")
        self.bad_bench(0, "\n")
        self.bad_bench(0, "\narm a 1")
        self.bad_bench(0, " ")

    def test_line_ends(self):
        self.bad_bench(1, "arm a 1\n")
        self.bad_bench(7, BENCH_TEXT + "\n")
        self.bad_bench(1, "arm a 1\n\nwork sum a 1 1")
        self.bad_bench(2, "arm a 1\nwork sum a 1 1\n\nwork tell a 1 1")

    def test_an_arm_behind_a_work(self):
        self.bad_bench(2, "arm a 1\nwork sum a 1 1\narm b 1")
        self.bad_bench(1, "work sum a 1 1\narm a 1")
        self.bad_bench(3, "arm a 1\nwork sum a 1 1\nwork tell a 1 1\narm b 1\nno form")
        self.bad_bench(2, "arm a 1\nwork sum a 1 1\narm a 0")
        self.bad_bench(2, "arm a 1\nwork sum a 1 1\narm")

    def test_rows_with_arms(self):
        for line in ("arm", "arm a", "arm a 1 1", "arm  a 1", "arm a  1", "arm a 1 ", " arm a 1", "arm 1 a", "arm a b",
                     "arm A 1", "arm a1 1", "arm a +1", "arm a -1", "arm a 01", "arm a 00", "Arm a 1", "arms a 1", "ar a 1",
                     "a 1", "arm a 1.", "arm a@1 1", "arm ~ 1", "arm a x", "arm a 1x", "arm a =", "arm a = 1", "arm = 1",
                     "arm a " + "1" * 62, "measure 7", "a = take", "arm a\t1"):
            self.bad_bench(0, line)
            self.bad_bench(1, "arm z 1\n" + line + "\nwork sum z 1 1")
            self.bad_bench(2, "arm z 1\nwork sum z 1 1\n" + line)

    def test_rows_with_works(self):
        for line in ("work", "work sum", "work sum a", "work sum a 1", "work sum a 1 1 1", "work  sum a 1 1", " work sum a 1 1",
                     "work sum a 1 1 ", "work sum  a 1 1", "work sum a  1 1", "work sum a 1  1", "work 1 a 1 1",
                     "work sum 1 1 1", "work sum a b 1", "work sum a 1 b", "work Sum a 1 1", "work sum A 1 1",
                     "work sum a 01 1", "work sum a 1 01", "work sum a -1 1", "work sum a 1 +1", "Work sum a 1 1",
                     "works sum a 1 1", "sum a 1 1", "work s1 a 1 1", "work sum a1 1 1", "work sum a " + "1" * 62 + " 1",
                     "work sum a 1 " + "1" * 62, "work sum a 1, 1", "work sum a 1 1;", "work = a 1 1", "work a 1"):
            self.bad_bench(0, line)
            self.bad_bench(1, "arm a 1\n" + line)
            self.bad_bench(2, "arm a 1\nwork tell a 1 1\n" + line + "\nwork take a 1 1")

    def test_how_many_figures(self):
        for figures in ("9" * 61, "1" + "0" * 60):
            self.refused(BadWidth, bench_read, f"arm a {figures}")
            self.refused(BadDelay, bench_read, f"arm a 1\nwork sum a {figures} 1")
            self.refused(BadHold, bench_read, f"arm a 1\nwork sum a 1 {figures}")

    def test_signs_beyond_the_alphabet(self):
        for sign in "\u00e9\u0661\u00b2\u0430\r\x0b\x0c\x1c\x85\u2028":
            self.bad_bench(0, "arm a " + sign)
            self.bad_bench(0, "arm " + sign + " 1")
            self.bad_bench(1, "arm a 1\nwork sum a 1 1" + sign)


class WhatABenchRefuses(Case):
    def test_each(self):
        cases = (
            (BadName, "arm abcdefghijklm 1"), (Twice, "arm a 1\narm a 1"), (BadWidth, "arm a 0"), (BadWidth, "arm a 5"),
            (BadArms, "work sum a 1 1"), (BadArms, "\n".join([f"arm {name} 1" for name in "abcdefg"])),
            (NoDeed, "arm a 1\nwork nothing a 1 1"), (NoDeed, "arm a 1\nwork " + "s" * 3000 + " a 1 1"),
            (Twice, "arm a 1\nwork sum a 1 1\nwork sum a 1 1"), (NoArm, "arm a 1\nwork sum b 1 1"),
            (BadDelay, "arm a 1\nwork sum a 0 1"), (BadDelay, "arm a 1\nwork sum a 7 1"),
            (BadHold, "arm a 1\nwork sum a 1 0"), (BadHold, "arm a 1\nwork sum a 1 7"),
            (BadName, "arm " + "a" * 3000 + " 1"),
        )
        for kind, text in cases:
            self.refused(kind, bench_read, text)

    def test_in_the_order_of_benches(self):
        self.refused(BadWidth, bench_read, "\n".join([f"arm {name} 1" for name in "abcdef"]) + "\narm g 5")
        self.refused(BadArms, bench_read, "work nothing a 0 0")
        self.refused(NoDeed, bench_read, "arm a 1\nwork nothing b 0 0")
        self.refused(NoArm, bench_read, "arm a 1\nwork sum b 0 0")
        self.refused(BadDelay, bench_read, "arm a 1\nwork sum a 0 0")

    def test_behind_the_forms_of_all_rows(self):
        self.bad_bench(1, "arm a 5\nno form")
        self.bad_bench(2, "arm a 1\narm a 1\n")
        self.bad_bench(2, "arm abcdefghijklm 9\nwork nothing b 9 9\narm a 1")
        self.bad_bench(7, "\n".join([f"arm {name} 1" for name in "abcdefg"]) + "\narm")


if __name__ == "__main__":
    unittest.main()
