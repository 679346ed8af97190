"""Points 5 and 11: words, the texts of patterns, hand-overs."""

import string
import unittest

from callmill.events import hand_text, is_word, shown_pattern

SMALL = string.ascii_lowercase
OTHER_SIGNS = [chr(code) for code in range(32, 127) if chr(code) not in SMALL] + ["\t", "\n"]


class Words(unittest.TestCase):
    def told(self, text, answer):
        with self.subTest(text=text):
            self.assertIs(is_word(text), answer)

    def test_no_sign(self):
        self.told("", False)

    def test_each_small_letter(self):
        for letter in SMALL:
            self.told(letter, True)
            self.told(letter * 8, True)

    def test_lengths(self):
        for length in range(1, 9):
            self.told(SMALL[:length], True)
            self.told(SMALL[-length:], True)
        for length in (9, 10, 16, 26):
            self.told(SMALL[:length], False)
        self.told("abcdefghi" * 400, False)

    def test_words_that_mean_something_elsewhere_are_words(self):
        for text in ("not", "and", "quiet", "key", "word", "other", "none", "box", "end"):
            self.told(text, True)

    def test_another_sign_alone(self):
        for sign in OTHER_SIGNS:
            self.told(sign, False)

    def test_another_sign_at_any_place(self):
        for sign in OTHER_SIGNS:
            for length in (1, 2, 6, 7):
                for place in range(length + 1):
                    self.told(SMALL[:place] + sign + SMALL[place:length], False)

    def test_another_sign_behind_eight_letters(self):
        for sign in OTHER_SIGNS:
            self.told("abcdefgh" + sign, False)
            self.told(sign + "abcdefgh", False)

    def test_other_signs_alone_eight_of_them(self):
        for sign in OTHER_SIGNS:
            self.told(sign * 8, False)


class Patterns(unittest.TestCase):
    def test_each_key(self):
        for key in range(10):
            with self.subTest(key=key):
                self.assertEqual(shown_pattern(("key", key)), "key " + "0123456789"[key])

    def test_words(self):
        self.assertEqual(shown_pattern(("word", "yes")), "word yes")
        self.assertEqual(shown_pattern(("word", "a")), "word a")
        self.assertEqual(shown_pattern(("word", "abcdefgh")), "word abcdefgh")

    def test_words_named_like_patterns(self):
        for word in ("word", "key", "other", "none"):
            with self.subTest(word=word):
                self.assertEqual(shown_pattern(("word", word)), "word " + word)

    def test_other_and_none(self):
        self.assertEqual(shown_pattern(("other",)), "other")
        self.assertEqual(shown_pattern(("none",)), "none")

    def test_a_text_is_told(self):
        for pattern in (("key", 0), ("key", 9), ("word", "yes"), ("other",), ("none",)):
            with self.subTest(pattern=pattern):
                self.assertIs(type(shown_pattern(pattern)), str)


class HandOvers(unittest.TestCase):
    def test_each_line(self):
        for line in range(10):
            with self.subTest(line=line):
                self.assertEqual(hand_text(line, "yes"), "0123456789"[line] + ":yes")

    def test_words_of_one_and_eight_letters(self):
        self.assertEqual(hand_text(0, "a"), "0:a")
        self.assertEqual(hand_text(9, "abcdefgh"), "9:abcdefgh")


if __name__ == "__main__":
    unittest.main()
