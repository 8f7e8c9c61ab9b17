"""Points 2, 3 and 15: ties."""

import unittest

import samples
from lapwork.benches import Bench
from lapwork.errors import NoArm
from lapwork.loops import Loop
from lapwork.ties import ties
from samples import EACH, WORDS, bench_of

DELAYS = {"sum": 1, "less": 2, "times": 3, "least": 4, "most": 5, "pick": 6, "same": 1, "tell": 2, "take": 3}


def bench_without(missing):
    return Bench([("a", 1), ("b", 2)], [(word, "b", DELAYS[word], 1) for word in WORDS if word != missing])


class WhatTiesThereAre(unittest.TestCase):
    bench = bench_without("")

    def test_of_reads_in_order(self):
        rows = [("x", "take", ()), ("y", "same", (5,)), ("a", "pick", (("y", 0), ("x", 1), ("x", 0)))]
        self.assertEqual(ties(Loop(9, rows), self.bench), [(1, 2, 0, 1), (0, 2, 1, 3), (0, 2, 0, 3)])

    def test_of_rows_in_order(self):
        rows = [("a", "same", (("c", 1),)), ("b", "tell", (("a", 0),)), ("c", "most", (("b", 0), ("a", 2)))]
        self.assertEqual(ties(Loop(9, rows), self.bench), [(2, 0, 1, 5), (0, 1, 0, 1), (1, 2, 0, 2), (0, 2, 2, 1)])

    def test_of_a_row_to_itself(self):
        self.assertEqual(ties(Loop(9, [("a", "same", (("a", 4),))]), self.bench), [(0, 0, 4, 1)])
        rows = [("x", "take", ()), ("a", "sum", (("a", 1), ("a", 6)))]
        self.assertEqual(ties(Loop(9, rows), self.bench), [(1, 1, 1, 1), (1, 1, 6, 1)])

    def test_of_a_row_to_a_later_one(self):
        rows = [("a", "tell", (("b", 3),)), ("b", "pick", (1, 2, 3))]
        self.assertEqual(ties(Loop(9, rows), self.bench), [(1, 0, 3, 6)])

    def test_the_delay_is_the_sources(self):
        for word in WORDS:
            rows = [("s", word, (1,) * samples.WANTS[word]), ("r", "same", (("s", 0),))]
            self.assertEqual(ties(Loop(9, rows), self.bench), [(0, 1, 0, DELAYS[word])])
            rows = [("s", "same", (1,)), ("r", "pick", (("s", 0), 1, 1))]
            self.assertEqual(ties(Loop(9, rows), bench_of(delay=4)), [(0, 1, 0, 4)])

    def test_it_is_the_delay_and_not_the_hold(self):
        bench = Bench([("a", 1)], [("same", "a", 5, 2)])
        self.assertEqual(ties(Loop(9, [("a", "same", (("a", 1),))]), bench), [(0, 0, 1, 5)])

    def test_the_same_tie_is_there_once(self):
        rows = [("x", "take", ()), ("a", "times", (("x", 0), ("x", 0)))]
        self.assertEqual(ties(Loop(9, rows), self.bench), [(0, 1, 0, 3)])
        rows = [("x", "take", ()), ("a", "pick", (("x", 2), ("x", 0), ("x", 2)))]
        self.assertEqual(ties(Loop(9, rows), self.bench), [(0, 1, 2, 3), (0, 1, 0, 3)])
        rows = [("a", "pick", (("a", 1), ("a", 1), ("a", 1)))]
        self.assertEqual(ties(Loop(9, rows), self.bench), [(0, 0, 1, 6)])

    def test_ties_that_are_alike_but_not_the_same(self):
        rows = [("x", "take", ()), ("y", "take", ()), ("a", "sum", (("x", 1), ("y", 1))), ("b", "same", (("x", 1),))]
        self.assertEqual(ties(Loop(9, rows), self.bench), [(0, 2, 1, 3), (1, 2, 1, 3), (0, 3, 1, 3)])

    def test_numbers_give_none(self):
        for word in WORDS:
            self.assertEqual(ties(Loop(9, [("a", word, (1,) * samples.WANTS[word])]), self.bench), [])
        rows = [("x", "take", ()), ("a", "pick", (0, ("x", 0), 1)), ("b", "sum", (7, 7))]
        self.assertEqual(ties(Loop(9, rows), self.bench), [(0, 1, 0, 3)])

    def test_twelve_rows(self):
        self.assertEqual(ties(Loop(9, EACH), self.bench), [
            (2, 2, 1, 1), (0, 2, 0, 3), (0, 3, 0, 3), (1, 3, 6, 3), (3, 4, 0, 2), (10, 4, 2, 1), (4, 5, 1, 3),
            (0, 5, 3, 3), (5, 6, 0, 4), (6, 6, 5, 5), (6, 7, 4, 5), (2, 7, 0, 1), (7, 8, 0, 6), (8, 9, 1, 1),
            (9, 10, 2, 2), (10, 11, 0, 1),
        ])

    def test_many_loops(self):
        for seed in range(100):
            loop, bench = samples.some_loop(seed), samples.some_bench(seed)
            names = [row[0] for row in loop.rows()]
            words = [row[1] for row in loop.rows()]
            wanted = {}
            for reader, row in enumerate(loop.rows()):
                for read in row[2]:
                    if isinstance(read, tuple):
                        source = names.index(read[0])
                        wanted[source, reader, read[1], bench.work(words[source])[1]] = True
            self.assertEqual(ties(loop, bench), list(wanted), seed)


class Refused(unittest.TestCase):
    def refused(self, loop, bench):
        with self.assertRaises(NoArm) as caught:
            ties(loop, bench)
        self.assertIs(type(caught.exception), NoArm)

    def test_each_deed_without_a_work(self):
        for word in WORDS:
            loop = Loop(9, EACH)
            self.refused(loop, bench_without(word))
            self.assertEqual(len(ties(loop, bench_without(""))), 16)

    def test_a_row_that_is_not_read_and_reads_nothing(self):
        for word in WORDS:
            lone = [("a", word, (1,) * samples.WANTS[word])]
            self.refused(Loop(9, lone), bench_without(word))
            other = "same" if word != "same" else "tell"
            self.refused(Loop(9, [("x", other, (1,)), ("y", other, (("x", 0),))] + lone), bench_without(word))

    def test_a_bench_without_works(self):
        self.refused(Loop(9, [("a", "same", (1,))]), Bench([("a", 1)], []))

    def test_a_deed_that_no_row_has_needs_no_work(self):
        loop = Loop(9, [("a", "same", (("a", 1),))])
        for word in WORDS:
            if word != "same":
                self.assertEqual(ties(loop, bench_without(word)), [(0, 0, 1, 1)])


class WhoseItIs(unittest.TestCase):
    def test_changing_what_was_told_changes_nothing(self):
        loop, bench = Loop(9, EACH), bench_of(delay=2)
        told = ties(loop, bench)
        kept = list(told)
        told.clear()
        self.assertEqual(ties(loop, bench), kept)
        self.assertEqual((loop.rows(), bench.arms(), bench.work("sum")), (EACH, ["arm"], ("arm", 2, 1)))

    def test_kinds(self):
        told = ties(Loop(9, EACH), bench_of())
        self.assertIs(type(told), list)
        for tie in told:
            self.assertIs(type(tie), tuple)
            self.assertEqual([type(part) for part in tie], [int] * 4)


if __name__ == "__main__":
    unittest.main()
