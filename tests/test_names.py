"""Point 2: a name is a text of one to twelve letters from a to z; and texts of such letters alone."""

import unittest

from lapwork.names import is_lettered, is_name


class Names(unittest.TestCase):
    def test_each_letter_by_itself_is_a_name(self):
        for sign in "abcdefghijklmnopqrstuvwxyz":
            self.assertIs(is_name(sign), True, sign)

    def test_one_to_twelve_letters_are_names(self):
        for length in range(1, 13):
            self.assertIs(is_name("z" * length), True, length)

    def test_none_and_thirteen_letters_are_no_names(self):
        self.assertIs(is_name(""), False)
        self.assertIs(is_name("a" * 13), False)
        self.assertIs(is_name("a" * 40), False)

    def test_every_other_sign_spoils_a_name_wherever_it_stands(self):
        others = [chr(code) for code in range(1, 1000) if not 97 <= code <= 122]
        for sign in others:
            for text in (sign, sign + "ab", "a" + sign + "b", "ab" + sign):
                self.assertIs(is_name(text), False, repr(text))

    def test_without_a_bound_for_their_count(self):
        for length in (1, 12, 13, 4000):
            self.assertIs(is_lettered("z" * length), True, length)
        self.assertIs(is_lettered(""), False)
        for sign in ("A", "1", " ", "@", "\n", "\u00e9", "`", "{"):
            for text in (sign, sign + "ab", "a" + sign + "b", "ab" + sign):
                self.assertIs(is_lettered(text), False, repr(text))


if __name__ == "__main__":
    unittest.main()
