"""Points 2, 6, 7 and 8: rows, loops, their refusals, rows() and deepest."""

import copy
import unittest

from lapwork import errors
from lapwork.loops import Loop

GREAT = 10 ** 60
WANTS = {"sum": 2, "less": 2, "times": 2, "least": 2, "most": 2, "pick": 3, "same": 1, "tell": 1, "take": 0}
NAMES = ["a", "b", "c", "d", "e", "f", "g", "h", "i", "j", "k", "l", "m", "n"]

FILTER = [
    ("x", "take", ()),
    ("scaled", "times", (("x", 0), 3)),
    ("acc", "sum", (("acc", 1), ("scaled", 0))),
    ("old", "less", (("acc", 0), ("acc", 6))),
    ("out", "tell", (("old", 2),)),
]


def takes(count):
    return [(name, "take", ()) for name in NAMES[:count]]


class Case(unittest.TestCase):
    def refused(self, kind, measure, rows):
        handed = copy.deepcopy(rows)
        with self.assertRaises(kind) as caught:
            Loop(measure, handed)
        self.assertIs(type(caught.exception), kind)
        self.assertEqual(handed, rows)

    def taken(self, measure, rows):
        loop = Loop(measure, copy.deepcopy(rows))
        self.assertEqual(loop.measure, measure)
        self.assertEqual(loop.rows(), rows)
        return loop


class MeasureBounds(Case):
    def test_measures_within_the_bounds(self):
        for measure in (2, 3, 97, GREAT - 1, GREAT):
            self.taken(measure, takes(1))

    def test_measures_beyond_the_bounds(self):
        for measure in (1, 0, -1, -2, -GREAT, GREAT + 1, GREAT * 10, 10 ** 5000):
            self.refused(errors.NoMeasure, measure, takes(1))


class RowBounds(Case):
    def test_one_to_twelve_rows(self):
        for count in range(1, 13):
            self.taken(7, takes(count))

    def test_no_row_and_more_than_twelve(self):
        for count in (0, 13, 14):
            self.refused(errors.BadRows, 7, takes(count))


class RowNames(Case):
    def test_names_of_one_and_of_twelve_letters(self):
        for name in ("a", "z", "abcdefghijkl", "mnopqrstuvwx"):
            self.taken(7, [(name, "take", ())])

    def test_texts_that_are_no_names(self):
        bad = ["", "abcdefghijklm", "A", "aB", "a1", "1", "a b", " a", "a ", "a_b", "a-b", "a@", "a\n", "\n", "~", "=",
               "\u00e9", "\u00df", "\u0131"]
        for name in bad:
            with self.subTest(name=name):
                self.refused(errors.BadName, 7, [(name, "take", ())])
                self.refused(errors.BadName, 7, takes(11) + [(name, "take", ())])

    def test_a_name_that_a_row_above_has(self):
        self.refused(errors.Twice, 7, [("a", "take", ()), ("a", "take", ())])
        self.refused(errors.Twice, 7, takes(11) + [("a", "take", ())])
        self.refused(errors.Twice, 7, [("b", "take", ()), ("a", "take", ()), ("a", "same", (1,))])

    def test_names_that_are_alike_but_not_the_same(self):
        self.taken(7, [("a", "take", ()), ("aa", "take", ()), ("ab", "take", ()), ("ba", "take", ())])


class Words(Case):
    def test_each_word_with_as_many_reads_as_it_wants(self):
        for word, count in WANTS.items():
            self.taken(7, [("a", word, (1,) * count)])

    def test_texts_that_are_no_words(self):
        for word in ("", "Sum", "SUM", "su", "summ", "sum ", "sum less", "a"):
            for count in range(4):
                self.refused(errors.NoDeed, 7, [("a", word, (1,) * count)])

    def test_another_number_of_reads(self):
        for word, count in WANTS.items():
            for other in range(6):
                if other != count:
                    with self.subTest(word=word, count=other):
                        self.refused(errors.BadCount, 7, [("a", word, (1,) * other)])


class Numbers(Case):
    def test_numbers_within_the_bounds(self):
        for number in (0, 1, 6, 7, 8, GREAT - 1):
            self.taken(7, [("a", "same", (number,))])
            self.taken(7, [("a", "pick", (0, 0, number))])

    def test_numbers_beyond_the_bounds(self):
        for number in (-1, -7, -GREAT, GREAT, GREAT + 1, 10 ** 5000):
            self.refused(errors.BadNumber, 7, [("a", "same", (number,))])
            self.refused(errors.BadNumber, 7, [("a", "pick", (number, 0, 0))])
            self.refused(errors.BadNumber, 7, [("a", "pick", (0, number, 0))])
            self.refused(errors.BadNumber, 7, [("a", "pick", (0, 0, number))])


class LooksBack(Case):
    def test_backs_within_the_bounds(self):
        for back in range(7):
            self.taken(7, [("a", "take", ()), ("b", "same", (("a", back),))])
        for back in range(1, 7):
            self.taken(7, [("a", "same", (("a", back),))])
            self.taken(7, [("a", "same", (("b", back),)), ("b", "take", ())])

    def test_backs_beyond_the_bounds(self):
        for back in (-1, -6, 7, 8, 60, -GREAT, GREAT, 10 ** 5000):
            self.refused(errors.BadBack, 7, [("a", "take", ()), ("b", "same", (("a", back),))])
            self.refused(errors.BadBack, 7, [("a", "same", (("a", back),))])
            self.refused(errors.BadBack, 7, [("a", "same", (("b", back),)), ("b", "take", ())])

    def test_a_name_that_no_row_has(self):
        for name in ("z", "aa", "", "A", "same", "abcdefghijklm"):
            for back in (0, 1, 6):
                self.refused(errors.NoRow, 7, [("a", "same", ((name, back),)), ("b", "take", ())])
                self.refused(errors.NoRow, 7, [("a", "take", ()), ("b", "sum", (1, (name, back)))])

    def test_back_nought_of_a_row_above(self):
        self.taken(7, [("a", "take", ()), ("b", "same", (("a", 0),))])
        self.taken(7, takes(11) + [("z", "sum", (("a", 0), ("k", 0)))])

    def test_back_nought_of_the_row_itself(self):
        self.refused(errors.TooEarly, 7, [("a", "same", (("a", 0),))])
        self.refused(errors.TooEarly, 7, [("a", "take", ()), ("b", "sum", (("a", 0), ("b", 0)))])

    def test_back_nought_of_a_later_row(self):
        self.refused(errors.TooEarly, 7, [("a", "same", (("b", 0),)), ("b", "take", ())])
        self.refused(errors.TooEarly, 7, [("a", "same", (("c", 0),)), ("b", "take", ()), ("c", "take", ())])

    def test_the_same_row_read_several_times_by_one(self):
        self.taken(7, [("a", "pick", (("a", 1), ("a", 1), ("a", 6)))])


class TwoFaultsAtOnce(Case):
    def test_the_measure_comes_first(self):
        self.refused(errors.NoMeasure, 1, [])
        self.refused(errors.NoMeasure, GREAT + 1, takes(13))
        self.refused(errors.NoMeasure, 1, [("A", "no", ())])

    def test_then_the_number_of_rows(self):
        self.refused(errors.BadRows, 7, [("A", "no", (1,))] + takes(12))
        self.refused(errors.BadRows, 7, [("a", "same", (-1,)), ("a", "take", ())] + takes(12))

    def test_within_the_head_of_a_row(self):
        self.refused(errors.BadName, 7, [("A", "no", ())])
        self.refused(errors.BadName, 7, [("A", "same", ())])
        self.refused(errors.BadName, 7, [("A", "same", (-1,))])
        self.refused(errors.BadName, 7, [("A", "take", ()), ("A", "take", ())])
        self.refused(errors.Twice, 7, [("a", "take", ()), ("a", "no", ())])
        self.refused(errors.Twice, 7, [("a", "take", ()), ("a", "same", ())])
        self.refused(errors.Twice, 7, [("a", "take", ()), ("a", "same", (-1,))])
        self.refused(errors.NoDeed, 7, [("a", "no", (-1,))])
        self.refused(errors.NoDeed, 7, [("a", "no", (("z", 9),) * 9)])

    def test_the_count_comes_ahead_of_the_reads(self):
        for read in (-1, GREAT, ("z", 1), ("a", 7), ("a", 0)):
            self.refused(errors.BadCount, 7, [("a", "sum", (read,))])
            self.refused(errors.BadCount, 7, [("a", "sum", (read, read, read))])
            self.refused(errors.BadCount, 7, [("a", "take", (read,))])

    def test_within_one_read(self):
        self.refused(errors.NoRow, 7, [("a", "same", (("z", 7),))])
        self.refused(errors.NoRow, 7, [("a", "same", (("z", -1),))])
        self.refused(errors.NoRow, 7, [("a", "same", (("z", 0),))])
        self.refused(errors.BadBack, 7, [("a", "same", (("a", -1),))])

    def test_read_after_read(self):
        faults = [(errors.BadNumber, -1), (errors.NoRow, ("z", 1)), (errors.BadBack, ("a", 7)),
                  (errors.TooEarly, ("a", 0))]
        for kind, read in faults:
            for other_kind, other in faults:
                with self.subTest(read=read, other=other):
                    self.refused(kind, 7, [("a", "sum", (read, other))])
                    self.refused(kind, 7, [("a", "pick", (1, read, other))])

    def test_row_after_row(self):
        early = [
            (errors.NoDeed, ("b", "no", ())), (errors.BadCount, ("b", "same", ())),
            (errors.BadNumber, ("b", "same", (-1,))), (errors.NoRow, ("b", "same", (("z", 1),))),
            (errors.BadBack, ("b", "same", (("a", 7),))), (errors.TooEarly, ("b", "same", (("b", 0),))),
            (errors.BadName, ("B", "take", ())), (errors.Twice, ("a", "take", ())),
        ]
        late = [
            ("C", "take", ()), ("a", "take", ()), ("c", "no", ()), ("c", "same", ()), ("c", "same", (GREAT,)),
            ("c", "same", (("y", 1),)), ("c", "same", (("a", -1),)), ("c", "same", (("c", 0),)),
        ]
        for kind, row in early:
            for other in late:
                with self.subTest(row=row, other=other):
                    self.refused(kind, 7, [("a", "take", ()), row, other])

    def test_a_later_row_counts_for_reads_even_where_it_is_refused_itself(self):
        self.refused(errors.BadName, 7, [("a", "same", (("B", 1),)), ("B", "take", ())])
        self.refused(errors.NoDeed, 7, [("a", "same", (("b", 1),)), ("b", "no", ())])
        self.refused(errors.TooEarly, 7, [("a", "same", (("B", 0),)), ("B", "take", ())])
        self.refused(errors.Twice, 7, [("a", "take", ()), ("b", "same", (("a", 0),)), ("a", "take", ())])


class Rows(Case):
    def test_rows_are_told_as_handed_in(self):
        loop = self.taken(1000, FILTER)
        self.assertIs(type(loop.rows()), list)
        for row in loop.rows():
            self.assertIs(type(row), tuple)
            self.assertIs(type(row[2]), tuple)
            for read in row[2]:
                self.assertIn(type(read), (int, tuple))

    def test_numbers_are_told_as_they_are_and_not_as_rests(self):
        rows = [("a", "sum", (GREAT - 1, 7))]
        self.assertEqual(Loop(2, rows).rows(), rows)

    def test_changing_the_list_handed_in_changes_nothing(self):
        handed = list(FILTER)
        loop = Loop(1000, handed)
        handed[0] = ("q", "same", (("old", 5),))
        handed.append(("w", "same", (("x", 4),)))
        self.assertEqual(loop.rows(), FILTER)
        self.assertEqual([loop.deepest("old"), loop.deepest("x")], [2, 0])
        handed.clear()
        self.assertEqual(loop.rows(), FILTER)

    def test_lists_within_the_rows_are_kept_as_tuples(self):
        handed = [["a", "take", []], ["b", "sum", [["a", 2], 3]]]
        loop = Loop(7, handed)
        handed[1][2][0][1] = 5
        handed[1][2][1] = 4
        self.assertEqual(loop.rows(), [("a", "take", ()), ("b", "sum", (("a", 2), 3))])
        self.assertEqual(loop.deepest("a"), 2)

    def test_changing_a_list_that_was_told_changes_nothing(self):
        loop = Loop(1000, list(FILTER))
        told = loop.rows()
        told.clear()
        self.assertEqual(loop.rows(), FILTER)
        again = loop.rows()
        again[2] = ("acc", "same", (("acc", 5),))
        again.append(("w", "same", (("x", 4),)))
        self.assertEqual(loop.rows(), FILTER)
        self.assertEqual([loop.deepest("acc"), loop.deepest("x")], [6, 0])

    def test_what_was_told_stays_when_more_is_asked(self):
        loop = Loop(1000, list(FILTER))
        told = loop.rows()
        loop.deepest("acc")
        loop.rows().reverse()
        self.assertEqual(told, FILTER)

    def test_two_loops_share_nothing(self):
        one = Loop(5, list(FILTER))
        other = Loop(9, [("acc", "same", (("acc", 2),))])
        self.assertEqual((one.measure, other.measure), (5, 9))
        self.assertEqual((one.deepest("acc"), other.deepest("acc")), (6, 2))
        self.assertEqual(one.rows(), FILTER)

    def test_the_list_handed_in_is_not_changed(self):
        handed = list(FILTER)
        loop = Loop(1000, handed)
        loop.rows().pop()
        loop.deepest("x")
        self.assertEqual(handed, FILTER)


class Deepest(Case):
    def test_a_row_that_is_read_several_times(self):
        loop = Loop(1000, FILTER)
        self.assertEqual(loop.deepest("acc"), 6)
        self.assertEqual(loop.deepest("old"), 2)

    def test_the_greatest_counts_wherever_it_stands(self):
        for backs in ((5, 1, 2), (1, 5, 2), (1, 2, 5)):
            reads = tuple([("a", back) for back in backs])
            self.assertEqual(Loop(7, [("a", "pick", reads)]).deepest("a"), 5)
            rows = [("a", "take", ())]
            for place, back in enumerate(backs):
                rows.append((NAMES[place + 1], "same", (("a", back),)))
            self.assertEqual(Loop(7, rows).deepest("a"), 5)

    def test_a_row_above_reads_too(self):
        self.assertEqual(Loop(7, [("a", "same", (("b", 4),)), ("b", "take", ())]).deepest("b"), 4)

    def test_each_back(self):
        for back in range(1, 7):
            self.assertEqual(Loop(7, [("a", "same", (("a", back),))]).deepest("a"), back)

    def test_a_row_that_is_read_in_the_same_turn_alone(self):
        self.assertEqual(Loop(1000, FILTER).deepest("x"), 0)
        self.assertEqual(Loop(1000, FILTER).deepest("scaled"), 0)

    def test_a_row_that_none_reads(self):
        self.assertEqual(Loop(1000, FILTER).deepest("out"), 0)

    def test_a_name_that_no_row_has(self):
        for name in ("z", "", "ACC", "ac", "accc"):
            self.assertEqual(Loop(1000, FILTER).deepest(name), 0)

    def test_a_number_that_is_read_is_no_back(self):
        loop = Loop(7, [("a", "sum", (6, 5)), ("b", "sum", (("a", 1), 3))])
        self.assertEqual([loop.deepest("a"), loop.deepest("b")], [1, 0])


if __name__ == "__main__":
    unittest.main()
