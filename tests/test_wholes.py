"""[8.2]: how whole numbers are written in answers."""

import unittest

from wirefloor.wholes import whole_in, whole_word

MOST = 10 ** 18 - 1


class Wholes(unittest.TestCase):
    def test_one_to_eighteen_figures(self):
        for many in range(1, 19):
            for word in ("9" * many, "1" + "0" * (many - 1)):
                self.assertEqual(whole_in(word), int(word))
                self.assertEqual(whole_in("-" + word), -int(word))

    def test_nineteen_and_more(self):
        for word in ("1" * 19, "9" * 19, "1" + "0" * 18, "1" * 30):
            self.assertIsNone(whole_in(word))
            self.assertIsNone(whole_in("-" + word))

    def test_nought(self):
        self.assertEqual(whole_in("0"), 0)
        self.assertIsNotNone(whole_in("0"))
        self.assertIsNone(whole_in("-0"))

    def test_a_nought_ahead(self):
        for word in ("00", "01", "007", "-00", "-01", "-007", "0" * 18, "-" + "0" * 18, "-0123"):
            self.assertIsNone(whole_in(word), word)

    def test_other_texts(self):
        for word in ("", "-", "--", "--1", "+1", "+", "-+1", "+-1", "1-", "1-1", " 1", "1 ", "- 1", "-1 ", " -1", "1.0",
                     "1_0",
                     "a", "-a", "1e2", "0x1", "one", "1\n", "-1\n", "\t1", "-.1", "1,000", "~1"):
            self.assertIsNone(whole_in(word), word)

    def test_each_other_sign(self):
        for number in range(32, 127):
            sign = chr(number)
            if sign not in "0123456789":
                for word in ("1" + sign, "-1" + sign, "-" + sign, sign + sign + "1", "1" + sign + "1"):
                    self.assertIsNone(whole_in(word), word)

    def test_there_and_back(self):
        for number in (0, 1, -1, 9, -9, 10, -10, 123456, MOST, -MOST, MOST - 1):
            self.assertEqual(whole_in(whole_word(number)), number)
        self.assertEqual(whole_word(number=-12), "-12")
        self.assertEqual(whole_word(0), "0")
        self.assertEqual(whole_word(MOST), "9" * 18)
        self.assertEqual(whole_word(-MOST), "-" + "9" * 18)
        self.assertIs(whole_in(word="-12").__class__, int)
