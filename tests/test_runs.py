"""Points 2, 3 and 9: which runs are refused, and in which order."""

import copy
import unittest

import samples
from lapwork.errors import BadTurns, Short
from lapwork.loops import Loop
from lapwork.meaning import outcome, table
from samples import EACH, GREAT

# taken is read back itself, so it needs both lists; deep reads itself five turns back.
ROWS = [
    ("deep", "sum", (("deep", 5), ("other", 2))),
    ("taken", "take", ()),
    ("out", "tell", (("taken", 3),)),
    ("other", "take", ()),
    ("idle", "same", (("taken", 0),)),
]


class Case(unittest.TestCase):
    def refused(self, kind, loop, turns, feeds, begin):
        caught = []
        rows = loop.rows()
        for ask in (table, outcome):
            handed = (copy.deepcopy(feeds), copy.deepcopy(begin))
            with self.assertRaises(kind) as met:
                ask(loop, turns, *handed)
            self.assertIs(type(met.exception), kind)
            self.assertEqual(handed, (feeds, begin))
            self.assertEqual(loop.rows(), rows)
            caught.append(met.exception)
        return caught

    def short(self, name, loop, turns, feeds, begin):
        for error in self.refused(Short, loop, turns, feeds, begin):
            self.assertEqual(error.name, name)

    def taken(self, loop, turns, feeds, begin):
        handed = (loop.measure, loop.rows(), turns, feeds, begin)
        self.assertEqual(table(loop, turns, feeds, begin), samples.meant_table(*handed))
        self.assertEqual(outcome(loop, turns, feeds, begin), samples.meant_outcome(*handed))


class Turns(Case):
    def test_within_the_bounds(self):
        loop = Loop(7, [("a", "tell", (3,)), ("b", "take", ())])
        for turns in (0, 1, 2, 299, 300):
            self.taken(loop, turns, {"b": [1] * turns}, {})

    def test_beyond_the_bounds(self):
        loop = Loop(7, [("a", "tell", (3,))])
        for turns in (-1, -2, -300, 301, 302, 3000, GREAT, -GREAT, 10 ** 5000):
            self.refused(BadTurns, loop, turns, {}, {})

    def test_they_come_ahead_of_short_lists(self):
        for turns in (-1, 301):
            self.refused(BadTurns, Loop(7, ROWS), turns, {}, {})
            self.refused(BadTurns, Loop(7, EACH), turns, {}, {})


class Feeds(Case):
    loop = Loop(97, [("a", "same", (1,)), ("b", "take", ()), ("c", "tell", (("b", 0),))])

    def test_just_long_enough(self):
        for turns in (0, 1, 2, 6, 300):
            self.taken(self.loop, turns, {"b": list(range(turns))}, {})

    def test_one_number_short(self):
        for turns in (1, 2, 6, 300):
            self.short("b", self.loop, turns, {"b": list(range(turns - 1))}, {})

    def test_missing(self):
        for turns in (1, 2, 300):
            self.short("b", self.loop, turns, {}, {})
            self.short("b", self.loop, turns, {"a": [1] * 300, "c": [1] * 300, "B": [1] * 300}, {})
            self.short("b", self.loop, turns, {}, {"b": [1] * 300})

    def test_for_no_turns_none_is_needed(self):
        self.taken(self.loop, 0, {}, {})
        self.taken(self.loop, 0, {"b": []}, {})

    def test_rows_with_other_deeds_need_none(self):
        rows = [("a", "pick", (1, 2, 3))] + [(word, word, (4,) * samples.WANTS[word]) for word in samples.WORDS[:8]]
        self.taken(Loop(9, rows), 5, {}, {})

    def test_the_first_row_in_order_is_named(self):
        loop = Loop(97, [("z", "take", ()), ("m", "take", ()), ("a", "take", ())])
        whole = {"a": [1, 2], "m": [3, 4], "z": [5, 6]}
        self.taken(loop, 2, whole, {})
        self.short("z", loop, 2, {}, {})
        self.short("z", loop, 2, {"a": [1], "m": [3], "z": [5]}, {})
        self.short("m", loop, 2, {"a": [1], "m": [3], "z": [5, 6]}, {})
        self.short("m", loop, 2, {"z": [5, 6]}, {})
        self.short("a", loop, 2, {"a": [1], "m": [3, 4], "z": [5, 6]}, {})
        self.short("a", loop, 2, {"m": [3, 4], "z": [5, 6]}, {})


class Begin(Case):
    def test_just_long_enough_and_one_number_short(self):
        for back in range(1, 7):
            loop = Loop(97, [("a", "same", (1,)), ("b", "sum", (("b", 1), ("b", back)))])
            for turns in (0, 1, 6, 300):
                with self.subTest(back=back, turns=turns):
                    self.taken(loop, turns, {}, {"b": list(range(back))})
                    self.short("b", loop, turns, {}, {"b": list(range(back - 1))})
                    self.short("b", loop, turns, {}, {})

    def test_needed_even_where_there_is_no_turn(self):
        loop = Loop(97, [("a", "tell", (("a", 1),))])
        self.short("a", loop, 0, {}, {})
        self.short("a", loop, 0, {}, {"a": []})
        self.taken(loop, 0, {}, {"a": [1]})

    def test_other_names_do_not_stand_for_it(self):
        loop = Loop(97, [("a", "tell", (("b", 1),)), ("b", "same", (4,))])
        self.short("b", loop, 1, {"b": [1, 2]}, {"a": [1, 2], "B": [1, 2], "": [1, 2]})

    def test_a_row_read_in_the_same_turn_alone_needs_none(self):
        self.taken(Loop(97, [("a", "same", (4,)), ("b", "tell", (("a", 0),))]), 3, {}, {})

    def test_the_first_row_in_order_is_named(self):
        rows = [("z", "same", (("a", 2),)), ("m", "same", (("z", 1),)), ("a", "same", (("m", 3),))]
        loop = Loop(97, rows)
        self.taken(loop, 2, {}, {"z": [1], "m": [1, 2, 3], "a": [1, 2]})
        self.short("z", loop, 2, {}, {})
        self.short("z", loop, 2, {}, {"m": [1, 2], "a": [1]})
        self.short("m", loop, 2, {}, {"z": [1], "m": [1, 2], "a": [1]})
        self.short("a", loop, 2, {}, {"z": [1], "m": [1, 2, 3], "a": [1]})
        self.short("a", loop, 2, {}, {"z": [1], "m": [1, 2, 3]})


class FeedsAndBegin(Case):
    loop = Loop(97, ROWS)
    feeds = {"taken": [1, 2], "other": [3, 4]}
    begin = {"deep": [1, 2, 3, 4, 5], "taken": [6, 7, 8], "other": [9, 10]}

    def less(self, whole, name):
        return {key: numbers[:-1] if key == name else numbers for key, numbers in whole.items()}

    def without(self, whole, name):
        return {key: numbers for key, numbers in whole.items() if key != name}

    def test_just_long_enough(self):
        self.taken(self.loop, 2, self.feeds, self.begin)

    def test_each_list_by_itself(self):
        for cut in (self.less, self.without):
            for name in self.feeds:
                self.short(name, self.loop, 2, cut(self.feeds, name), self.begin)
            for name in self.begin:
                self.short(name, self.loop, 2, self.feeds, cut(self.begin, name))

    def test_feeds_come_ahead_of_begin(self):
        for cut in (self.less, self.without):
            for name in self.feeds:
                for other in self.begin:
                    self.short(name, self.loop, 2, cut(self.feeds, name), cut(self.begin, other))
        self.short("taken", self.loop, 2, {}, {})
        self.short("other", self.loop, 2, {"taken": [1, 2]}, {})
        self.short("deep", self.loop, 2, self.feeds, {})
        self.short("deep", self.loop, 0, {}, {})

    def test_a_row_with_take_that_is_read_back_needs_both(self):
        self.short("taken", self.loop, 2, self.without(self.feeds, "taken"), self.begin)
        self.short("taken", self.loop, 2, self.feeds, self.without(self.begin, "taken"))
        self.short("taken", self.loop, 2, {"taken": [1], "other": [3, 4]}, self.begin)
        self.short("taken", self.loop, 0, {}, {"deep": [1] * 5, "taken": [6, 7], "other": [9, 10]})
        # Neither list stands for the other one, however long it is.
        self.short("taken", self.loop, 2, {"other": [3, 4]}, dict(self.begin, taken=[1] * 9))
        self.short("taken", self.loop, 2, dict(self.feeds, taken=[1] * 9), self.without(self.begin, "taken"))


if __name__ == "__main__":
    unittest.main()
