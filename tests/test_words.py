import string
import unittest

from nesthall.words import is_word

SMALL_LETTERS = string.ascii_lowercase
OTHER_SIGNS = "\n" + "".join(chr(code) for code in range(32, 127) if chr(code) not in SMALL_LETTERS)


class Words(unittest.TestCase):
    def test_the_empty_text_is_none(self):
        self.assertIs(is_word(""), False)

    def test_each_small_letter_by_itself(self):
        for letter in SMALL_LETTERS:
            with self.subTest(letter):
                self.assertIs(is_word(letter), True)

    def test_each_small_letter_first_in_the_middle_and_last(self):
        for letter in SMALL_LETTERS:
            for text in (letter + "mm", "m" + letter + "m", "mm" + letter):
                with self.subTest(text):
                    self.assertIs(is_word(text), True)

    def test_each_length(self):
        for length in range(30):
            with self.subTest(length):
                self.assertIs(is_word("q" * length), 1 <= length <= 12)

    def test_one_twelve_and_thirteen_letters(self):
        self.assertIs(is_word("a"), True)
        self.assertIs(is_word("abcdefghijkl"), True)
        self.assertIs(is_word("zyxwvutsrqpo"), True)
        self.assertIs(is_word("abcdefghijklm"), False)

    def test_no_other_sign_by_itself(self):
        for sign in OTHER_SIGNS:
            with self.subTest(repr(sign)):
                self.assertIs(is_word(sign), False)

    def test_no_other_sign_first_in_the_middle_or_last(self):
        for sign in OTHER_SIGNS:
            for text in (sign + "door", "do" + sign + "or", "door" + sign):
                with self.subTest(repr(text)):
                    self.assertIs(is_word(text), False)

    def test_no_other_sign_in_a_text_of_twelve(self):
        for sign in OTHER_SIGNS:
            for place in range(12):
                text = "m" * place + sign + "m" * (11 - place)
                with self.subTest(repr(text)):
                    self.assertIs(is_word(text), False)

    def test_texts_of_other_signs_alone(self):
        for text in ("DOOR", "12", "  ", "\n\n", "--", "A1 \n", "`", "{"):
            with self.subTest(repr(text)):
                self.assertIs(is_word(text), False)

    def test_words_with_which_rows_are_written_are_words(self):
        for text in ("order", "lamp", "in", "yes", "box"):
            with self.subTest(text):
                self.assertIs(is_word(text), True)


if __name__ == "__main__":
    unittest.main()
