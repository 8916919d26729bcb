import unittest

from nesthall.errors import NestError, NoWords
from nesthall.figures import read_number, written

NUMBERS = (
    (0, "0"),
    (1, "1"),
    (9, "9"),
    (10, "10"),
    (100, "100"),
    (907, "907"),
    (1234567890, "1234567890"),
    (-1, "-1"),
    (-9, "-9"),
    (-10, "-10"),
    (-205, "-205"),
    (10 ** 30, "1" + "0" * 30),
    (-10 ** 30, "-1" + "0" * 30),
    (10 ** 300 - 1, "9" * 300),
    (1 - 10 ** 300, "-" + "9" * 300),
    (10 ** 299, "1" + "0" * 299),
)
NO_NUMBERS = (
    "", "00", "01", "007", "-0", "-00", "-01", "+0", "+1", "+", "-", "--1", "-+1", "1-", "12-", "1-2", "- 1", " ", " 1",
    "1 ", "1 2", "1  2", "\n", "1\n", "\n1", "1\n2", "-1\n", "a", "a1", "1a", "-a", "one", "O", "l", "1_000", "1,000",
    "1.", "1.0", "1e3", "0x1", "0b1", "(1)", "-" + "0" * 300, "0" + "9" * 299, "9" * 299 + "x", "/", ":", "1/", "1:",
)


class Written(unittest.TestCase):
    def test_numbers(self):
        for number, text in NUMBERS:
            with self.subTest(number):
                self.assertEqual(written(number), text)
                self.assertIs(type(written(number)), str)

    def test_each_number_up_to_a_thousand(self):
        figures = "0123456789"
        for number in range(1000):
            text = figures[number // 100] + figures[number // 10 % 10] + figures[number % 10]
            text = text.lstrip("0") or "0"
            self.assertEqual(written(number), text)
            self.assertEqual(read_number(text), number)
            if number:
                self.assertEqual(written(-number), "-" + text)
                self.assertEqual(read_number("-" + text), -number)


class Read(unittest.TestCase):
    def refused(self, text):
        with self.subTest(text):
            with self.assertRaises(NoWords):
                read_number(text)
            with self.assertRaises(NestError):
                read_number(text)

    def test_numbers(self):
        for number, text in NUMBERS:
            with self.subTest(number):
                self.assertEqual(read_number(text), number)
                self.assertIs(type(read_number(text)), int)

    def test_texts_that_write_no_number(self):
        for text in NO_NUMBERS:
            self.refused(text)

    def test_each_sign_by_itself_ahead_and_behind(self):
        for code in (10, *range(32, 127)):
            sign = chr(code)
            if sign in "0123456789":
                self.assertEqual(written(read_number(sign)), sign)
                self.assertEqual(written(read_number("1" + sign)), "1" + sign)
            else:
                self.refused(sign)
                self.refused("1" + sign)
                self.refused("1" + sign + "1")
                if sign != "-":
                    self.refused(sign + "1")

    def test_what_is_read_is_written_again(self):
        for head in ("", "-", "7", "-7", "0"):
            for figures in ("", "0", "00", "10", "01", "999", "5" * 280):
                text = head + figures
                try:
                    number = read_number(text)
                except NoWords:
                    bare = text.lstrip("-")
                    self.assertTrue(bare == "" or bare[0] == "0" and text != "0", text)
                else:
                    self.assertEqual(written(number), text)


if __name__ == "__main__":
    unittest.main()
