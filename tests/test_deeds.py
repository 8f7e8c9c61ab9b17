"""Points 4 and 5: the nine deeds."""

import unittest

from lapwork import deeds
from lapwork.deeds import Deed, deed_of
from lapwork.errors import NoDeed

GREAT = 10 ** 60
TOP = GREAT - 1

CLASSES = {
    "sum": deeds.Sum, "less": deeds.Less, "times": deeds.Times, "least": deeds.Least, "most": deeds.Most,
    "pick": deeds.Pick, "same": deeds.Same, "tell": deeds.Tell, "take": deeds.Take,
}
WANTS = {"sum": 2, "less": 2, "times": 2, "least": 2, "most": 2, "pick": 3, "same": 1, "tell": 1, "take": 0}

# (word, numbers, measure, the rest that is made)
ORDINARY = [
    ("sum", [3, 5], 100, 8), ("sum", [3, 5], 7, 1), ("sum", [3, 4], 7, 0), ("sum", [0, 0], 7, 0),
    ("less", [9, 5], 100, 4), ("less", [5, 9], 100, 96), ("less", [5, 5], 7, 0), ("less", [3, 20], 7, 4),
    ("times", [6, 7], 100, 42), ("times", [6, 7], 10, 2), ("times", [0, 7], 10, 0), ("times", [5, 2], 10, 0),
    ("least", [3, 8], 10, 3), ("least", [8, 3], 10, 3), ("least", [4, 4], 10, 4),
    ("least", [12, 5], 10, 2), ("least", [5, 12], 10, 2), ("least", [10, 1], 10, 0),
    ("most", [3, 8], 10, 8), ("most", [8, 3], 10, 8), ("most", [4, 4], 10, 4),
    ("most", [12, 5], 10, 5), ("most", [5, 12], 10, 5), ("most", [10, 1], 10, 1),
    ("pick", [0, 4, 6], 10, 6), ("pick", [1, 4, 6], 10, 4), ("pick", [9, 14, 6], 10, 4), ("pick", [0, 4, 16], 10, 6),
    ("pick", [10, 4, 6], 10, 6), ("pick", [11, 4, 6], 10, 4),
    ("same", [7], 10, 7), ("same", [17], 10, 7), ("same", [10], 10, 0),
    ("tell", [7], 10, 7), ("tell", [17], 10, 7), ("tell", [10], 10, 0),
    ("take", [7], 10, 7), ("take", [17], 10, 7), ("take", [10], 10, 0),
]

BELOW_NOUGHT = [
    ("sum", [-3, -5], 10, 2), ("sum", [-3, 5], 10, 2), ("sum", [-10, 0], 10, 0),
    ("less", [-3, 5], 10, 2), ("less", [3, -5], 10, 8), ("less", [-3, -5], 10, 2),
    ("times", [-3, 4], 10, 8), ("times", [-3, -4], 10, 2), ("times", [-1, 1], 10, 9),
    ("least", [-1, 5], 10, 5), ("least", [5, -1], 10, 5), ("least", [-8, 5], 10, 2),
    ("most", [-1, 5], 10, 9), ("most", [5, -1], 10, 9), ("most", [-8, 5], 10, 5),
    ("pick", [-10, 4, -6], 10, 4), ("pick", [-1, -4, 3], 10, 6), ("pick", [0, -4, -3], 10, 7),
    ("same", [-1], 10, 9), ("same", [-10], 10, 0),
    ("tell", [-1], 10, 9), ("tell", [-10], 10, 0),
    ("take", [-1], 10, 9), ("take", [-10], 10, 0),
]

LEAST_MEASURE = [
    ("sum", [1, 1], 2, 0), ("sum", [1, 0], 2, 1), ("less", [0, 1], 2, 1), ("less", [1, 1], 2, 0),
    ("times", [3, 5], 2, 1), ("times", [3, 4], 2, 0),
    ("least", [3, 2], 2, 0), ("least", [3, 5], 2, 1), ("most", [3, 2], 2, 1), ("most", [4, 2], 2, 0),
    ("pick", [2, 1, 0], 2, 0), ("pick", [3, 1, 0], 2, 1), ("pick", [2, 0, 1], 2, 1),
    ("same", [5], 2, 1), ("tell", [5], 2, 1), ("take", [5], 2, 1), ("same", [-4], 2, 0),
    ("sum", [TOP, TOP], 2, 0), ("less", [TOP, -TOP], 2, 0), ("times", [TOP, TOP], 2, 1), ("take", [TOP], 2, 1),
]

SIXTY_FIGURES = [
    ("sum", [TOP, TOP], GREAT, TOP - 1), ("sum", [TOP, 1], GREAT, 0), ("sum", [-TOP, -TOP], GREAT, 2),
    ("less", [TOP, -TOP], GREAT, TOP - 1), ("less", [0, TOP], GREAT, 1), ("less", [-TOP, TOP], GREAT, 2),
    ("times", [TOP, TOP], GREAT, 1), ("times", [TOP, -TOP], GREAT, TOP), ("times", [TOP, 2], GREAT, TOP - 1),
    ("least", [TOP, 5], GREAT, 5), ("least", [-TOP, 5], GREAT, 1), ("least", [TOP, TOP - 1], GREAT, TOP - 1),
    ("most", [TOP, 5], GREAT, TOP), ("most", [-TOP, 5], GREAT, 5), ("most", [TOP, TOP - 1], GREAT, TOP),
    ("pick", [TOP, -TOP, 7], GREAT, 1), ("pick", [0, 7, TOP], GREAT, TOP), ("pick", [-TOP, TOP, 7], GREAT, TOP),
    ("same", [TOP], GREAT, TOP), ("tell", [TOP], GREAT, TOP), ("take", [TOP], GREAT, TOP),
    ("same", [-TOP], GREAT, 1), ("tell", [-TOP], GREAT, 1), ("take", [-TOP], GREAT, 1),
    ("sum", [TOP, TOP], 10, 8), ("less", [-TOP, TOP], 10, 2), ("times", [TOP, TOP], 1000, 1),
    ("least", [TOP, -TOP], 10, 1), ("most", [TOP, -TOP], 10, 9), ("pick", [TOP, -TOP, TOP], 9, 0),
    ("same", [TOP], 1000, 999), ("tell", [-TOP], 1000, 1), ("take", [TOP], 9, 0),
]

NO_WORDS = [
    "", " ", "Sum", "SUM", "PICK", "Take", "su", "summ", "um", "s um", "sum ", " sum", "sum\n", "less1", "les",
    "time", "timess", "leest", "leas", "mos", "mosst", "pic", "picks", "sam", "sames", "tel", "tells", "tak", "takes",
    "sum less", "sumless", "tell,take", "deed", "of", "plus", "min", "0",
]


class WhatDeedsMake(unittest.TestCase):
    def check(self, cases):
        for word, numbers, measure, made in cases:
            with self.subTest(word=word, numbers=numbers, measure=measure):
                self.assertEqual(deed_of(word).of(list(numbers), measure), made)
                self.assertEqual(CLASSES[word]().of(list(numbers), measure), made)

    def test_ordinary_numbers(self):
        self.check(ORDINARY)

    def test_numbers_below_nought(self):
        self.check(BELOW_NOUGHT)

    def test_the_measure_two(self):
        self.check(LEAST_MEASURE)

    def test_numbers_of_sixty_figures_and_the_greatest_measure(self):
        self.check(SIXTY_FIGURES)

    def test_each_table_has_every_word(self):
        for cases in (ORDINARY, BELOW_NOUGHT, LEAST_MEASURE, SIXTY_FIGURES):
            self.assertEqual({case[0] for case in cases}, set(WANTS))

    def test_the_numbers_handed_in_are_not_changed(self):
        for word, numbers, measure, made in ORDINARY + BELOW_NOUGHT + SIXTY_FIGURES:
            handed = list(numbers)
            deed_of(word).of(handed, measure)
            self.assertEqual(handed, numbers, word)

    def test_a_deed_makes_the_same_again(self):
        for word, numbers, measure, made in ORDINARY:
            deed = deed_of(word)
            deed.of([90] * len(numbers), 1000)
            self.assertEqual(deed.of(list(numbers), measure), made, word)


class WhatDeedsAre(unittest.TestCase):
    def test_each_word_has_a_class_of_its_own_under_deed(self):
        for word, kind in CLASSES.items():
            with self.subTest(word=word):
                self.assertIs(type(deed_of(word)), kind)
                self.assertEqual(kind.__bases__, (Deed,))
        self.assertEqual(len(set(CLASSES.values())), 9)

    def test_wants(self):
        for word, count in WANTS.items():
            with self.subTest(word=word):
                self.assertEqual(deed_of(word).wants(), count)
                self.assertEqual(CLASSES[word]().wants(), count)

    def test_each_asker_gets_an_object_of_his_own(self):
        for word in WANTS:
            self.assertIsNot(deed_of(word), deed_of(word))


class NoSuchDeed(unittest.TestCase):
    def test_any_other_text_is_refused(self):
        for word in NO_WORDS:
            with self.subTest(word=word):
                with self.assertRaises(NoDeed) as caught:
                    deed_of(word)
                self.assertIs(type(caught.exception), NoDeed)

    def test_each_word_with_a_sign_put_in_or_taken_out_is_refused(self):
        for word in WANTS:
            changed = [word.upper(), word.capitalize()]
            for place in range(len(word) + 1):
                changed.append(word[:place] + "a" + word[place:])
                changed.append(word[:place] + " " + word[place:])
                if place < len(word):
                    changed.append(word[:place] + word[place + 1:])
            for text in changed:
                with self.subTest(text=text):
                    self.assertRaises(NoDeed, deed_of, text)

    def test_two_words_are_refused(self):
        for one in WANTS:
            for other in WANTS:
                self.assertRaises(NoDeed, deed_of, one + " " + other)
                self.assertRaises(NoDeed, deed_of, one + other)


if __name__ == "__main__":
    unittest.main()
