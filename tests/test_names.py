import unittest

from pileduel.names import is_name

KEPT = ("place", "letter", "rule", "own", "arrow", "ends", "one", "other")


class IsNameTest(unittest.TestCase):
    def test_one_to_six_small_letters(self):
        for text in ("a", "z", "az", "hall", "abcdef", "zzzzzz", "mnopqr"):
            self.assertIs(is_name(text), True, text)

    def test_every_small_letter_by_itself(self):
        for sign in "abcdefghijklmnopqrstuvwxyz":
            self.assertIs(is_name(sign), True, sign)

    def test_no_signs_and_too_many(self):
        for text in ("", "abcdefg", "aaaaaaa", "a" * 100, "letters"):
            self.assertIs(is_name(text), False, text)

    def test_kept_words(self):
        for word in KEPT:
            self.assertIs(is_name(word), False, word)

    def test_kept_words_with_a_letter_more_or_fewer(self):
        for word in KEPT:
            for text in (word[1:], word[:-1]):
                self.assertIs(is_name(text), True, text)
            for text in (word + "s", "a" + word, word + word[-1]):
                self.assertIs(is_name(text), len(text) <= 6, text)

    def test_parts_of_several_kept_words(self):
        for text in ("oneown", "ownone", "placeo"):
            self.assertIs(is_name(text), True, text)

    def test_signs_that_are_no_small_letters(self):
        small = "abcdefghijklmnopqrstuvwxyz"
        for number in range(0x250):
            sign = chr(number)
            for text in (sign, "a" + sign, sign + "a", "a" + sign + "b"):
                self.assertIs(is_name(text), sign in small, repr(text))

    def test_blanks_and_line_feeds(self):
        for text in (" ", "\n", "a ", " a", "a b", "a\n", "\na", "a\nb", "abcdef\n", "one ", "one\n", "\t", "a\r"):
            self.assertIs(is_name(text), False, repr(text))

    def test_small_letters_of_other_scripts(self):
        for text in ("\u00e4", "\u03b1", "\u0430", "\u00df", "\uff41", "a\u0301"):
            self.assertIs(is_name(text), False, repr(text))

    def test_kept_words_in_great_letters(self):
        for word in KEPT:
            self.assertIs(is_name(word.upper()), False)
            self.assertIs(is_name(word.title()), False)

    def test_asked_again(self):
        self.assertEqual([is_name(text) for text in ("a", "one", "a", "", "one")], [True, False, True, False, False])


if __name__ == "__main__":
    unittest.main()
