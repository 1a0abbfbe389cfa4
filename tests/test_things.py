import string
import unittest

from helper import SIGNS, STRANGE_THINGS
from twinshelves.things import is_name, is_text

SIGNS_OF_NO_TEXT = ("\n", "\t", "\r", "\0", "\x1f", "\x7f", "\x80", "\xa0", "\xe9", "\u0430", "\u2028", "\U0001f600")


def with_sign_at_each_place(text, sign):
    return [text[:place] + sign + text[place + 1:] for place in range(len(text))]


class Names(unittest.TestCase):
    def test_one_to_six_letters(self):
        for length in range(1, 7):
            for letter in string.ascii_lowercase:
                self.assertIs(is_name(letter * length), True, letter * length)
        for name in ("az", "abcdef", "uvwxyz", "zyx"):
            self.assertIs(is_name(name), True, name)

    def test_no_letter_or_more_than_six(self):
        for name in ("", "abcdefg", "aaaaaaaa", "a" * 60, "a" * 1000):
            self.assertIs(is_name(name), False, name)

    def test_one_strange_sign_at_any_place(self):
        strange = [sign for sign in SIGNS if sign not in string.ascii_lowercase]
        strange.extend(SIGNS_OF_NO_TEXT)
        for sign in strange:
            for length in range(1, 7):
                for name in with_sign_at_each_place("abcxyz"[:length], sign):
                    self.assertIs(is_name(name), False, name)

    def test_things_of_other_kinds(self):
        for thing in STRANGE_THINGS:
            self.assertIs(is_name(thing), False, thing)


class Texts(unittest.TestCase):
    def test_none_to_sixty_signs(self):
        for length in range(61):
            for sign in " a~":
                self.assertIs(is_text(sign * length), True, length)

    def test_every_sign_from_the_blank_to_the_tilde(self):
        for sign in SIGNS:
            self.assertIs(is_text(sign), True, sign)
        self.assertIs(is_text(SIGNS[:60]), True)
        self.assertIs(is_text(SIGNS[-60:]), True)

    def test_more_than_sixty_signs(self):
        for length in (61, 62, 100, 1000):
            for sign in " a~":
                self.assertIs(is_text(sign * length), False, length)

    def test_one_strange_sign_at_any_place(self):
        for sign in SIGNS_OF_NO_TEXT:
            for length in (1, 2, 30, 60):
                for text in with_sign_at_each_place(SIGNS[:length], sign):
                    self.assertIs(is_text(text), False, text)

    def test_things_of_other_kinds(self):
        for thing in STRANGE_THINGS:
            self.assertIs(is_text(thing), False, thing)


if __name__ == "__main__":
    unittest.main()
