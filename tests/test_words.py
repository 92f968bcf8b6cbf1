"""[3.1], [3.2]: the rows and words of a page, and numbers and spots as they are written."""

import random
import re
import unittest

from wirefloor.words import number_in, rows_of, spot_in, spot_word

SIGNS = [chr(number) for number in range(32, 127)] + ["\t", "\n"]


def slow_rows(page):
    told = []
    for number, row in enumerate(page.split("\n"), start=1):
        words = re.findall("[^ ]+", re.sub(";.*", "", row))
        if words:
            told.append((number, words))
    return told


class Rows(unittest.TestCase):
    def told(self, page):
        told = rows_of(page)
        self.assertEqual(told, slow_rows(page))
        for row in told:
            self.assertIsInstance(row, tuple)
            self.assertIsInstance(row[1], list)
        return told

    def test_empty_pages(self):
        for page in ("", "\n", "\n\n\n", " ", "   \n  \n", ";", ";;;", " ; a b\n;c", "; floor 1 1 1"):
            self.assertEqual(self.told(page), [])

    def test_one_row(self):
        self.assertEqual(self.told("a"), [(1, ["a"])])
        self.assertEqual(self.told("floor 1 2 3"), [(1, ["floor", "1", "2", "3"])])
        self.assertEqual(self.told("a\n"), [(1, ["a"])])

    def test_numbers_of_rows(self):
        self.assertEqual(self.told("\n\na\n \nb c\n;\nd"), [(3, ["a"]), (5, ["b", "c"]), (7, ["d"])])

    def test_blanks(self):
        self.assertEqual(self.told("   a  b    c   "), [(1, ["a", "b", "c"])])
        self.assertEqual(self.told("a b"), [(1, ["a", "b"])])

    def test_remarks(self):
        self.assertEqual(self.told("a b;c d"), [(1, ["a", "b"])])
        self.assertEqual(self.told("a b ; c d"), [(1, ["a", "b"])])
        self.assertEqual(self.told("a b ;; c ; d;\ne;"), [(1, ["a", "b"]), (2, ["e"])])
        self.assertEqual(self.told(";a\nb"), [(2, ["b"])])
        self.assertEqual(self.told("  ;a"), [])
        self.assertEqual(self.told("a;b;c\n;;d\nf ;;"), [(1, ["a"]), (3, ["f"])])

    def test_other_signs_part_nothing(self):
        self.assertEqual(self.told("a\tb c,d -e.f ~!\"#$&'()"), [(1, ["a\tb", "c,d", "-e.f", "~!\"#$&'()"])])
        self.assertEqual(self.told("\t"), [(1, ["\t"])])

    def test_same_rows_again(self):
        self.assertEqual(self.told("a b\na b"), [(1, ["a", "b"]), (2, ["a", "b"])])

    def test_many_pages(self):
        chance = random.Random(4)
        for _ in range(300):
            self.told("".join(chance.choice("ab ;\n \t0") for _ in range(chance.randint(0, 30))))

    def test_what_is_told_is_the_askers(self):
        rows_of("a b")[0][1].clear()
        self.assertEqual(rows_of(page="a b"), [(1, ["a", "b"])])


class Numbers(unittest.TestCase):
    def test_one_to_eighteen_figures(self):
        for many in range(1, 19):
            self.assertEqual(number_in("9" * many), 10 ** many - 1)
            self.assertEqual(number_in("1" + "0" * (many - 1)), 10 ** (many - 1))
        for figure in "0123456789":
            self.assertEqual(number_in(figure), int(figure))
        self.assertEqual(number_in("1234567890"), 1234567890)

    def test_nineteen_and_more(self):
        for word in ("1" * 19, "9" * 19, "1" + "0" * 18, "5" * 40, "0" * 19):
            self.assertIsNone(number_in(word))

    def test_a_nought_ahead(self):
        for word in ("00", "01", "007", "0" * 18, "0" + "9" * 17, "000"):
            self.assertIsNone(number_in(word))
        self.assertEqual(number_in("0"), 0)
        self.assertIsNotNone(number_in("0"))

    def test_no_signs(self):
        self.assertIsNone(number_in(""))

    def test_other_signs(self):
        for word in ("-1", "+1", "1.0", "1_0", " 1", "1 ", "1e3", "0x1", "a", "one", "1a", "a1", "-", "1,0", "1\n",
                     "\t1"):
            self.assertIsNone(number_in(word), word)
        for sign in SIGNS:
            if sign not in "0123456789":
                for word in (sign, "1" + sign, sign + "1", "1" + sign + "1"):
                    self.assertIsNone(number_in(word), word)

    def test_a_whole_number_is_told(self):
        self.assertIs(number_in(word="12").__class__, int)


class Spots(unittest.TestCase):
    def test_well_written(self):
        self.assertEqual(spot_in("0.0.0"), (0, 0, 0))
        self.assertEqual(spot_in("3.15.7"), (3, 15, 7))
        self.assertEqual(spot_in(word="1.20.300"), (1, 20, 300))
        most = "9" * 18
        self.assertEqual(spot_in(f"{most}.{most}.{most}"), (10 ** 18 - 1, 10 ** 18 - 1, 10 ** 18 - 1))
        self.assertIs(spot_in("0.0.0").__class__, tuple)

    def test_badly_written(self):
        for word in ("", ".", "..", "...", "0", "0.0", "1.2", "0.0.0.0", "1.2.3.4", "0..0", ".0.0", "0.0.", ".1.2.3",
                     "1.2.3.",
                     "1.2.", "01.0.0", "0.00.0", "0.0.01", "-1.0.0", "0.-1.0", "0.0.-1", "a.b.c", "0,0,0", "0.0.0 ",
                     " 0.0.0",
                     "1 .2.3", "1" * 19 + ".0.0", "0." + "1" * 19 + ".0", "0.0." + "1" * 19, "0.0.x", "(0, 0, 0)",
                     "0:0:0"):
            self.assertIsNone(spot_in(word), word)

    def test_there_and_back(self):
        for spot in ((0, 0, 0), (1, 2, 3), (3, 15, 15), (10, 100, 1000), (10 ** 18 - 1, 0, 10 ** 17)):
            self.assertEqual(spot_in(spot_word(spot)), spot)
        self.assertEqual(spot_word(spot=(1, 20, 300)), "1.20.300")
        self.assertEqual(spot_word((0, 0, 0)), "0.0.0")
        self.assertEqual(spot_word((10 ** 18 - 1, 0, 1)), "9" * 18 + ".0.1")
