"""Points 2, 10 and 11: what a loop means, table and outcome."""

import copy
import unittest

import samples
from lapwork.loops import Loop
from lapwork.meaning import outcome, table
from samples import EACH, EACH_DEEPEST, GREAT, TOP

# A feed of each sort for EACH, for three turns, and a begin of just the numbers that are needed.
FEEDS = {"x": [5, -8, 12], "y": [1, 2, 3]}
BEGIN = {
    "x": [4, 3, 2], "y": [11, 12, 13, 14, 15, 16], "acc": [95], "prod": [7], "high": [50, 0, 100, 0, 3],
    "copy": [42], "out": [8, 9], "late": [6, 5],
}


class ByHand(unittest.TestCase):
    def test_one_row_that_reads_itself(self):
        loop = Loop(100, [("a", "sum", (("a", 1), 30))])
        self.assertEqual(table(loop, 4, {}, {"a": [5]}), [("a", [35, 65, 95, 25])])
        self.assertEqual(outcome(loop, 4, {}, {"a": [5]}), ([], [("a", [25])]))

    def test_one_row_that_reads_itself_twice(self):
        loop = Loop(1000, [("fib", "sum", (("fib", 1), ("fib", 2)))])
        begin = {"fib": [1, 0]}
        self.assertEqual(table(loop, 8, {}, begin), [("fib", [1, 2, 3, 5, 8, 13, 21, 34])])
        self.assertEqual(outcome(loop, 8, {}, begin), ([], [("fib", [34, 21])]))

    def test_the_first_of_begin_is_for_the_turn_just_ahead(self):
        for back in range(1, 7):
            loop = Loop(100, [("a", "same", (("a", back),))])
            numbers = [11, 22, 33, 44, 55, 66][:back]
            made = list(reversed(numbers))
            self.assertEqual(table(loop, back, {}, {"a": numbers}), [("a", made)])
            self.assertEqual(table(loop, 2 * back, {}, {"a": numbers}), [("a", made + made)])
            self.assertEqual(table(loop, 1, {}, {"a": numbers}), [("a", [numbers[-1]])])

    def test_one_row_that_takes(self):
        loop = Loop(10, [("a", "take", ())])
        self.assertEqual(table(loop, 3, {"a": [7, 17, -1]}, {}), [("a", [7, 7, 9])])
        self.assertEqual(outcome(loop, 3, {"a": [7, 17, -1]}, {}), ([], []))

    def test_one_row_that_tells_a_number(self):
        loop = Loop(10, [("a", "tell", (25,))])
        self.assertEqual(table(loop, 2, {}, {}), [("a", [5, 5])])
        self.assertEqual(outcome(loop, 2, {}, {}), ([("a", [5, 5])], []))

    def test_one_row_of_each_deed(self):
        cases = [
            ("sum", (8, 5), 3), ("less", (5, 8), 7), ("times", (8, 5), 0), ("least", (12, 5), 2), ("most", (19, 5), 9),
            ("pick", (20, 3, 14), 4), ("pick", (21, 13, 4), 3), ("same", (18,), 8), ("tell", (18,), 8),
        ]
        for word, reads, made in cases:
            with self.subTest(word=word, reads=reads):
                self.assertEqual(table(Loop(10, [("a", word, reads)]), 2, {}, {}), [("a", [made, made])])

    def test_reads_of_one_turn_are_of_what_is_made_in_it(self):
        loop = Loop(100, [("x", "take", ()), ("twice", "sum", (("x", 0), ("x", 0))), ("out", "tell", (("twice", 0),))])
        told, ends = outcome(loop, 3, {"x": [1, 2, 3]}, {})
        self.assertEqual((told, ends), ([("out", [2, 4, 6])], []))

    def test_reads_of_a_later_row_are_of_a_turn_ahead(self):
        loop = Loop(100, [("out", "tell", (("x", 1),)), ("x", "take", ())])
        self.assertEqual(table(loop, 3, {"x": [1, 2, 3]}, {"x": [70]}), [("out", [70, 1, 2]), ("x", [1, 2, 3])])
        self.assertEqual(outcome(loop, 3, {"x": [1, 2, 3]}, {"x": [70]}), ([("out", [70, 1, 2])], [("x", [3])]))

    def test_reads_stand_in_their_order(self):
        loop = Loop(100, [("x", "take", ()), ("a", "less", (("x", 0), ("x", 1))), ("b", "less", (("x", 1), ("x", 0)))])
        made = table(loop, 2, {"x": [30, 37]}, {"x": [20]})
        self.assertEqual(made, [("x", [30, 37]), ("a", [10, 7]), ("b", [90, 93])])

    def test_twelve_rows_with_each_deed(self):
        # By the measure 101 the rest of 10^60 less one is 0, since 10^4 leaves 1.
        made = table(Loop(101, EACH), 3, FEEDS, BEGIN)
        self.assertEqual(made, [
            ("x", [5, 93, 12]), ("y", [1, 2, 3]), ("acc", [100, 92, 3]), ("gap", [90, 78, 99]), ("prod", [46, 64, 83]),
            ("low", [2, 3, 4]), ("high", [3, 3, 100]), ("which", [77, 92, 77]), ("copy", [77, 92, 77]),
            ("out", [42, 77, 92]), ("late", [9, 8, 42]), ("last", [9, 8, 42]),
        ])
        told, ends = outcome(Loop(101, EACH), 3, FEEDS, BEGIN)
        self.assertEqual(told, [("out", [42, 77, 92]), ("last", [9, 8, 42])])
        self.assertEqual(ends, [
            ("x", [12, 93, 5]), ("y", [3, 2, 1, 11, 12, 13]), ("acc", [3]), ("prod", [83]),
            ("high", [100, 3, 3, 50, 0]), ("copy", [77]), ("out", [92, 77]), ("late", [42, 8]),
        ])


class AgainstAnotherWay(unittest.TestCase):
    def check(self, loop, turns, feeds, begin):
        handed = (loop.measure, loop.rows(), turns, feeds, begin)
        self.assertEqual(table(loop, turns, feeds, begin), samples.meant_table(*handed))
        self.assertEqual(outcome(loop, turns, feeds, begin), samples.meant_outcome(*handed))

    def test_twelve_rows_with_each_deed(self):
        for measure in (2, 7, 101, 10 ** 9 + 7, TOP, GREAT):
            loop = Loop(measure, EACH)
            for turns in (0, 1, 2, 3, 5, 6, 7, 20, 300):
                with self.subTest(measure=measure, turns=turns):
                    feeds, begin = samples.some_run(turns, loop, turns)
                    self.check(loop, turns, feeds, begin)

    def test_the_sample_has_all_that_is_to_be_seen(self):
        self.assertEqual(len(EACH), 12)
        self.assertEqual({row[1] for row in EACH}, set(samples.WORDS))
        loop = Loop(7, EACH)
        self.assertEqual({row[0]: loop.deepest(row[0]) for row in EACH}, EACH_DEEPEST)
        backs = {read[1] for row in EACH for read in row[2] if isinstance(read, tuple)}
        self.assertEqual(backs, set(range(7)))

    def test_many_loops(self):
        for seed in range(300):
            loop = samples.some_loop(seed)
            for turns in (0, 1, 2, 4, 9):
                with self.subTest(seed=seed, turns=turns):
                    feeds, begin = samples.some_run(seed + turns, loop, turns)
                    self.check(loop, turns, feeds, begin)

    def test_many_loops_of_one_and_of_twelve_rows(self):
        for seed in range(60):
            for count in (1, 12):
                loop = samples.some_loop(seed, count)
                with self.subTest(seed=seed, count=count):
                    feeds, begin = samples.some_run(seed, loop, 30)
                    self.check(loop, 30, feeds, begin)

    def test_three_hundred_turns(self):
        for seed in range(5):
            loop = samples.some_loop(seed, 12)
            feeds, begin = samples.some_run(seed, loop, 300)
            self.check(loop, 300, feeds, begin)


class NoTurns(unittest.TestCase):
    def test_nothing_is_made(self):
        self.assertEqual(table(Loop(7, EACH), 0, {}, BEGIN), [(row[0], []) for row in EACH])

    def test_the_ends_are_the_begin_as_rests(self):
        told, ends = outcome(Loop(7, EACH), 0, {}, BEGIN)
        self.assertEqual(told, [("out", []), ("last", [])])
        names = [name for name, depth in EACH_DEEPEST.items() if depth > 0]
        self.assertEqual(ends, [(name, [number % 7 for number in BEGIN[name]]) for name in names])

    def test_feeds_are_not_asked_for(self):
        loop = Loop(7, [("a", "take", ())])
        for feeds in ({}, {"a": []}, {"b": [1]}):
            self.assertEqual(table(loop, 0, feeds, {}), [("a", [])])


class FewerTurnsThanReadBack(unittest.TestCase):
    def test_the_ends_go_on_into_begin(self):
        loop = Loop(100, [("x", "take", ()), ("out", "tell", (("x", 6),))])
        begin = {"x": [-1, 201, 3, 4, 5, 6]}
        rests = [99, 1, 3, 4, 5, 6]
        feeds = [50, 51, 52, 53, 54, 55, 56, 57]
        for turns in range(9):
            told, ends = outcome(loop, turns, {"x": feeds[:turns]}, begin)
            line = list(reversed(feeds[:turns])) + rests
            self.assertEqual(ends, [("x", line[:6])], turns)
            self.assertEqual(told, [("out", (list(reversed(rests)) + feeds)[:turns])], turns)


class Ends(unittest.TestCase):
    def test_rows_read_in_the_same_turn_alone_have_none(self):
        loop = Loop(9, [("a", "take", ()), ("b", "same", (("a", 0),)), ("c", "tell", (("c", 2),))])
        told, ends = outcome(loop, 1, {"a": [4]}, {"c": [1, 2]})
        self.assertEqual(ends, [("c", [2, 1])])

    def test_they_stand_in_the_order_of_rows(self):
        rows = [("b", "same", (("z", 1),)), ("z", "same", (("a", 2),)), ("a", "same", (("b", 3),))]
        begin = {"a": [1, 2], "b": [3, 4, 5], "z": [6]}
        told, ends = outcome(Loop(9, rows), 0, {}, begin)
        self.assertEqual(ends, [("b", [3, 4, 5]), ("z", [6]), ("a", [1, 2])])

    def test_a_row_that_tells_and_is_read_back_stands_in_both(self):
        loop = Loop(9, [("a", "tell", (("a", 1),))])
        self.assertEqual(outcome(loop, 2, {}, {"a": [13]}), ([("a", [4, 4])], [("a", [4])]))

    def test_they_are_the_begin_of_a_further_run(self):
        for seed in range(120):
            loop = samples.some_loop(seed)
            feeds, begin = samples.some_run(seed, loop, 17)
            whole = outcome(loop, 17, feeds, begin)
            for cut in (0, 1, 2, 5, 6, 16, 17):
                with self.subTest(seed=seed, cut=cut):
                    told, ends = outcome(loop, cut, feeds, begin)
                    left = {name: numbers[cut:] for name, numbers in feeds.items()}
                    further, last = outcome(loop, 17 - cut, left, dict(ends))
                    joined = [(one[0], one[1] + other[1]) for one, other in zip(told, further)]
                    self.assertEqual((joined, last), whole)

    def test_turn_after_turn_by_itself(self):
        loop = Loop(10 ** 9 + 7, EACH)
        feeds, begin = samples.some_run(3, loop, 300)
        whole = outcome(loop, 300, feeds, begin)
        told = {"out": [], "last": []}
        for turn in range(300):
            now, ends = outcome(loop, 1, {name: [numbers[turn]] for name, numbers in feeds.items()}, begin)
            begin = dict(ends)
            for name, made in now:
                told[name].extend(made)
        self.assertEqual(([(name, made) for name, made in told.items()], ends), whole)


class GreatNumbers(unittest.TestCase):
    def test_sixty_figures_of_either_sign(self):
        loop = Loop(GREAT, [("x", "take", ()), ("a", "times", (("x", 0), ("a", 1))), ("b", "sum", (TOP, ("b", 1)))])
        made = table(loop, 2, {"x": [TOP, -TOP]}, {"a": [-TOP], "b": [-TOP]})
        self.assertEqual(made, [("x", [TOP, 1]), ("a", [TOP, TOP]), ("b", [0, TOP])])

    def test_begin_counts_as_rests(self):
        loop = Loop(10, [("a", "least", (("a", 1), 7))])
        self.assertEqual(table(loop, 1, {}, {"a": [-1]}), [("a", [7])])
        self.assertEqual(table(loop, 1, {}, {"a": [-TOP]}), [("a", [1])])
        self.assertEqual(table(loop, 1, {}, {"a": [TOP]}), [("a", [7])])
        self.assertEqual(outcome(loop, 0, {}, {"a": [-TOP]}), ([], [("a", [1])]))


class MoreThanIsAsked(unittest.TestCase):
    def test_longer_lists_and_other_names_are_not_looked_at(self):
        loop = Loop(101, EACH)
        more_feeds = {name: numbers + [9, -9, TOP] for name, numbers in FEEDS.items()}
        more_begin = {name: numbers + [9, -9, TOP] for name, numbers in BEGIN.items()}
        more_feeds.update({"acc": [1], "none": [], "X": [5], "": [6]})
        more_begin.update({"gap": [1], "last": [], "none": [7], "X": [5], "": [6]})
        self.assertEqual(table(loop, 3, more_feeds, more_begin), table(loop, 3, FEEDS, BEGIN))
        self.assertEqual(outcome(loop, 3, more_feeds, more_begin), outcome(loop, 3, FEEDS, BEGIN))
        self.assertEqual(outcome(loop, 0, more_feeds, more_begin), outcome(loop, 0, {}, BEGIN))

    def test_a_feed_for_a_row_that_does_not_take_is_nothing(self):
        loop = Loop(10, [("a", "same", (3,))])
        self.assertEqual(table(loop, 2, {"a": [8, 9]}, {"a": [7]}), [("a", [3, 3])])


class WhoseItIs(unittest.TestCase):
    def test_what_is_handed_in_is_not_changed(self):
        loop = Loop(101, EACH)
        feeds, begin = copy.deepcopy(FEEDS), copy.deepcopy(BEGIN)
        for ask in (table, outcome):
            for turns in (0, 1, 3):
                ask(loop, turns, feeds, begin)
                self.assertEqual((feeds, begin, loop.rows()), (FEEDS, BEGIN, EACH))

    def test_an_empty_dict_handed_in_stays_empty(self):
        feeds, begin = {}, {}
        outcome(Loop(10, [("a", "tell", (3,))]), 4, feeds, begin)
        outcome(Loop(10, [("a", "take", ())]), 0, feeds, begin)
        self.assertEqual((feeds, begin), ({}, {}))

    def test_what_is_told_is_the_askers_own(self):
        loop = Loop(101, EACH)
        feeds, begin = copy.deepcopy(FEEDS), copy.deepcopy(BEGIN)
        for turns in (0, 1, 3):
            first = table(loop, turns, feeds, begin)
            told, ends = outcome(loop, turns, feeds, begin)
            kept = copy.deepcopy((first, told, ends))
            for lines in (first, told, ends):
                for name, made in lines:
                    made.append(5)
                    made[0] = -1
                lines.reverse()
            self.assertEqual((feeds, begin, loop.rows()), (FEEDS, BEGIN, EACH))
            self.assertEqual((table(loop, turns, feeds, begin),) + outcome(loop, turns, feeds, begin), kept)

    def test_told_and_ends_share_nothing(self):
        loop = Loop(10, [("a", "tell", (("a", 1),))])
        told, ends = outcome(loop, 1, {}, {"a": [4]})
        told[0][1].append(9)
        self.assertEqual(ends, [("a", [4])])
        ends[0][1].clear()
        self.assertEqual(told, [("a", [4, 9])])

    def test_what_was_told_stays_when_the_asker_changes_what_was_handed_in(self):
        loop = Loop(10, [("x", "take", ()), ("a", "tell", (("x", 2),))])
        feeds, begin = {"x": [1, 2, 3]}, {"x": [4, 5]}
        told = (table(loop, 3, feeds, begin), outcome(loop, 3, feeds, begin), outcome(loop, 0, feeds, begin))
        kept = copy.deepcopy(told)
        feeds["x"][0] = 9
        begin["x"].clear()
        feeds.clear()
        self.assertEqual(told, kept)

    def test_kinds(self):
        loop = Loop(101, EACH)
        told, ends = outcome(loop, 3, FEEDS, BEGIN)
        self.assertIs(type(outcome(loop, 3, FEEDS, BEGIN)), tuple)
        for lines in (table(loop, 3, FEEDS, BEGIN), told, ends):
            self.assertIs(type(lines), list)
            for line in lines:
                self.assertIs(type(line), tuple)
                self.assertEqual((type(line[0]), type(line[1]), len(line)), (str, list, 2))


if __name__ == "__main__":
    unittest.main()
