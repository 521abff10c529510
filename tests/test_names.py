"""[4] Names."""

import string
import unittest

from openhouses.names import is_name
from things import odd_things, shown


class Names(unittest.TestCase):
    def told(self, thing, answer):
        self.assertIs(is_name(thing), answer, shown(thing))

    def test_how_many_letters(self):
        self.told("", False)
        for many in range(1, 7):
            self.told("abcdefg"[:many], True)
        for many in (7, 8, 100, 10000):
            self.told("a" * many, False)

    def test_each_small_letter_at_each_place(self):
        for letter in string.ascii_lowercase:
            for size in range(1, 7):
                for at in range(size):
                    self.told("m" * at + letter + "m" * (size - at - 1), True)

    def test_each_other_sign_at_each_place(self):
        others = [chr(code) for code in range(256) if chr(code) not in string.ascii_lowercase]
        # Letters and figures of other writings, some of which Python itself calls small letters.
        others += ["\u0131", "\u017f", "\u03b1", "\u0430", "\u0661", "\u2028", "\uff41", "\U0001d41a", "\ud800"]
        for sign in others:
            for size in range(1, 7):
                for at in range(size):
                    self.told("m" * at + sign + "m" * (size - at - 1), False)

    def test_what_is_no_text(self):
        for thing in odd_things() + [1, 7, 10 ** 30]:
            self.told(thing, False)


if __name__ == "__main__":
    unittest.main()
