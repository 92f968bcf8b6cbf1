"""[8.4]: which texts are read as answers, and the row with which any other text is refused."""

import random
import unittest

from tests.helpers import MOST_WHOLE, answer_told, bad_row, refused_by, some_answer
from wirefloor.answer_reader import read_answer
from wirefloor.answers import Answer, answer_text
from wirefloor.bundles import BundlePaper, CutPaper
from wirefloor.errors import BadAnswer
from wirefloor.papers import ShorePaper
from wirefloor.trees import TreePaper

A, B, C = (0, 0, 0), (0, 0, 1), (0, 10, 2)

WHOLE = """answer open
laid a
step 0.0.1 0.0.0
step 0.0.1 0.0.0
laid ab
laid b
step 0.10.2 999999999999999999.0.7
paper a tree -5
step 0.0.0 0.0.1
hill 4
at 0.0.0 0
at 0.0.1 -3
hill -9
hill 2
at 0.0.0 1
at 0.10.2 1
paper b bundle 1 2
step 0.0.0 0.0.1
at 0.0.0 0 3
at 0.9.9 -1 -2
paper c shore
spot 0.10.2
spot 0.0.0
spot 0.0.0
paper d cut
cut 0.10.2
cut 0.0.0
spot 0.0.1
spot 0.0.0
never a cut
spot 0.0.1
never b shore
never c bundle 0 0
at 0.0.1 0 0
never d tree 0
hill 0"""


def refused(text):
    """The number of the row for which a text is refused, or None."""
    error = refused_by(read_answer, text)
    if error is not None and error.__class__ != BadAnswer:
        raise error
    return None if error is None else error.row


class Reading(unittest.TestCase):
    def told(self, text):
        """The row that is refused, held against the words."""
        row = refused(text)
        self.assertEqual(row, bad_row(text), text)
        if row is None:
            self.assertEqual(answer_text(read_answer(text)), text)
        return row

    def test_a_whole_answer(self):
        self.assertIsNone(self.told(WHOLE))
        answer = read_answer(page=WHOLE)
        self.assertIsInstance(answer, Answer)
        self.assertIs(answer.rested, False)
        self.assertEqual(answer.layout, {"a": [(B, A), (B, A)], "ab": [], "b": [(C, (MOST_WHOLE, 0, 7))]})
        want = {"a": TreePaper([(A, B)], -5, [(4, {A: 0, B: -3}), (-9, {}), (2, {A: 1, C: 1})]),
                "b": BundlePaper([(A, B)], 1, 2, {A: (0, 3), (0, 9, 9): (-1, -2)}),
                "c": ShorePaper([C, A, A]), "d": CutPaper([C, A], [B, A])}
        nevers = {"a": CutPaper([], [B]), "b": ShorePaper([]), "c": BundlePaper([], 0, 0, {B: (0, 0)}),
                  "d": TreePaper([], 0, [(0, {})])}
        self.assertEqual(answer_told(answer), answer_told(Answer(False, answer.layout, want, nevers)))
        self.assertEqual([paper.__class__ for paper in answer.papers.values()],
                         [TreePaper, BundlePaper, ShorePaper, CutPaper])

    def test_the_least(self):
        self.assertEqual(answer_told(read_answer("answer rested")), (True, {}, {}, {}))
        self.assertEqual(answer_told(read_answer("answer open")), (False, {}, {}, {}))
        self.assertIs(read_answer("answer rested").rested, True)

    def test_cut_off_behind_each_row(self):
        rows = WHOLE.split("\n")
        for many in range(1, len(rows) + 1):
            text = "\n".join(rows[:many])
            self.assertIsNone(self.told(text))
            self.assertEqual(self.told(text + "\n"), many + 1)
            self.assertEqual(self.told(text + "\n\n"), many + 1)
            self.assertEqual(self.told(text + " "), many)

    def test_no_signs(self):
        for text in ("", "\n", " ", "\n\n", "\t"):
            self.assertEqual(self.told(text), 1)

    def test_a_wrong_first_row(self):
        for row in ("answer", "rested", "answer Rested", "answer rested ", " answer rested", "answer  rested",
                    "answer closed",
                    "answers open", "answer open open", "answer rested open", "open", "laid a", "paper a shore",
                    "answer\trested",
                    "ANSWER open", "answer open;", "; x"):
            self.assertEqual(self.told(row), 1, row)
            self.assertEqual(self.told(row + "\nlaid a"), 1, row)

    def test_the_first_row_again(self):
        self.assertEqual(self.told("answer open\nanswer open"), 2)
        self.assertEqual(self.told(WHOLE + "\nanswer open"), 37)

    def test_a_blank_more_in_each_row(self):
        rows = WHOLE.split("\n")
        for place, row in enumerate(rows):
            for wrong in (" " + row, row + " ", row.replace(" ", "  ", 1), row.replace(" ", "\t", 1), row + "\t",
                          row + ";"):
                self.assertEqual(self.told("\n".join(rows[:place] + [wrong] + rows[place + 1:])), place + 1, wrong)

    def test_each_row_left_out_twice_or_turned(self):
        rows = WHOLE.split("\n")
        for place in range(len(rows)):
            self.told("\n".join(rows[:place] + rows[place + 1:]))
            self.told("\n".join(rows[:place + 1] + rows[place:]))
            self.told("\n".join(rows[:place] + rows[place:place + 2][::-1] + rows[place + 2:]))
            self.told("\n".join(rows[:place] + [""] + rows[place:]))

    def test_each_row_in_each_place(self):
        rows = WHOLE.split("\n")
        for place in range(1, len(rows) + 1):
            for row in rows:
                self.told("\n".join(rows[:place] + [row] + rows[place:]))

    def test_words_too_many_and_too_few(self):
        rows = WHOLE.split("\n")
        for place, row in enumerate(rows):
            words = row.split(" ")
            for many in range(len(words)):
                self.told("\n".join(rows[:place] + [" ".join(words[:many])]))
                self.told("\n".join(rows[:place] + [" ".join(words[:many] + words[many + 1:])]))
            for more in ("0", "a", "0.0.0", "-1", "shore"):
                self.assertEqual(self.told("\n".join(rows[:place] + [row + " " + more])), place + 1)

    def test_rows_of_no_part(self):
        for row in ("x", "steps 0.0.0 0.0.1", "step", "at", "hill", "spot", "cut", "laid", "paper", "never", "Laid z",
                    "note x",
                    "; remark", "step 0.0.0 0.0.1 0.0.2"):
            for text in ("answer open", "answer open\nlaid a", WHOLE):
                self.assertEqual(self.told(text + "\n" + row), len(text.split("\n")) + 1, row)

    def test_rows_where_nothing_is_told_of_yet(self):
        for row in ("step 0.0.0 0.0.1", "spot 0.0.0", "cut 0.0.0", "at 0.0.0 0", "at 0.0.0 0 0", "hill 3"):
            self.assertEqual(self.told("answer rested\n" + row), 2, row)

    def test_rows_of_another_kind(self):
        own = {"laid a": ["step 0.0.0 0.0.1"], "paper a tree 1": ["step 0.0.0 0.0.1", "hill 3"],
               "paper a bundle 1 1": ["step 0.0.0 0.0.1", "at 0.0.0 0 0"], "paper a shore": ["spot 0.0.0"],
               "paper a cut": ["cut 0.0.0", "spot 0.0.0"]}
        rows = ["step 0.0.0 0.0.1", "spot 0.0.0", "cut 0.0.0", "at 0.0.0 0", "at 0.0.0 0 0", "hill 3"]
        for head in own:
            for row in rows:
                self.assertEqual(self.told(f"answer open\n{head}\n{row}"), None if row in own[head] else 3, (head, row))
                if head != "laid a":
                    never = head.replace("paper", "never")
                    self.assertEqual(self.told(f"answer open\n{never}\n{row}"), None if row in own[head] else 3)

    def test_rows_of_a_part_that_is_over(self):
        cases = [("paper a tree 1", "hill 3", "step 0.0.0 0.0.1"),
                 ("paper a bundle 1 1", "at 0.0.0 0 0", "step 0.0.0 0.0.1"),
                 ("paper a cut", "spot 0.0.0", "cut 0.0.0"), ("paper a tree 1", "hill 3", "at 0.0.0 0 0"),
                 ("paper a bundle 1 1", "step 0.0.0 0.0.1", "at 0.0.0 0")]
        for head, first, row in cases:
            self.assertEqual(self.told(f"answer open\n{head}\n{first}\n{row}"), 4, (head, row))

    def test_kinds(self):
        for kind in ("tree", "tree x", "tree 1 2", "tree 01", "tree -0", "bundle", "bundle 1", "bundle 1 2 3",
                     "bundle 1 x", "shore 1",
                     "cut 1", "cuts", "Tree 1", "net 1", "", "tree 1.0", "shore ", "tree " + "1" * 19, "plain"):
            for part in ("paper", "never"):
                self.assertEqual(self.told(f"answer open\n{part} a {kind}"), 2, kind)
        self.assertEqual(self.told("answer open\nlaid a shore"), 2)
        self.assertEqual(self.told("answer open\npaper a"), 2)

    def test_names(self):
        for name in ("", "A", "0", "0a", "a_b", "a-b", "abcdefghijklm", "a.b", "#", "aB"):
            for row in (f"laid {name}", f"paper {name} shore", f"never {name} shore"):
                self.assertEqual(self.told("answer open\n" + row), 2, row)
        for name in ("a", "abcdefghijkl", "a0", "z9", "laid", "shore", "step"):
            for row in (f"laid {name}", f"paper {name} shore", f"never {name} shore"):
                self.assertIsNone(self.told("answer open\n" + row), row)

    def test_names_out_of_order(self):
        for part, kind in (("laid", ""), ("paper", " shore"), ("never", " cut")):
            for one, two, good in (("a", "b", True), ("b", "a", False), ("a", "a", False), ("a", "ab", True),
                                   ("ab", "a", False),
                                   ("b10", "b9", True), ("b9", "b10", False), ("a0", "aa", True)):
                text = f"answer open\n{part} {one}{kind}\n{part} {two}{kind}"
                self.assertEqual(self.told(text), None if good else 3, text)

    def test_parts_out_of_order(self):
        heads = {"laid": "laid m", "paper": "paper m shore", "never": "never m shore"}
        order = ["laid", "paper", "never"]
        for one in order:
            for two in order:
                good = order.index(one) < order.index(two)
                self.assertEqual(self.told(f"answer open\n{heads[one]}\n{heads[two]}"), None if good else 3)
        self.assertIsNone(self.told("answer open\nlaid z\npaper a shore\nnever a shore"))
        self.assertEqual(self.told("answer open\npaper a shore\nnever a shore\npaper b shore"), 4)
        self.assertEqual(self.told("answer open\nlaid a\npaper a shore\nlaid b"), 4)

    def test_spots_out_of_order(self):
        for head, behind in (("paper a tree 1\nhill 5", " 1"), ("paper a bundle 1 1\nstep 0.0.0 0.0.1", " 1 1")):
            text = f"answer open\n{head}\nat 0.9.1{behind}\n"
            for spot, good in (("0.9.1", False), ("0.9.0", False), ("0.0.99", False), ("0.9.2", True), ("0.10.0", True),
                               ("1.0.0", True), ("0.8.99", False)):
                self.assertEqual(self.told(f"{text}at {spot}{behind}"), None if good else 5, (head, spot))
        self.assertIsNone(self.told("answer open\npaper a tree 1\nhill 5\nat 0.9.1 1\nhill 5\nat 0.0.0 1"))
        self.assertIsNone(self.told("answer open\npaper a bundle 1 1\nat 0.9.1 1 1\npaper b bundle 1 1\nat 0.0.0 1 1"))

    def test_numbers(self):
        for word in ("-0", "01", "+1", "--1", "", "x", "1" * 19, "-" + "1" * 19, "1.0", "-"):
            for text in (f"paper a tree {word}", f"paper a bundle {word} 1", f"paper a bundle 1 {word}"):
                self.assertEqual(self.told("answer open\n" + text), 2, text)
            self.assertEqual(self.told(f"answer open\npaper a tree 1\nhill {word}"), 3)
            self.assertEqual(self.told(f"answer open\npaper a tree 1\nhill 1\nat 0.0.0 {word}"), 4)
            self.assertEqual(self.told(f"answer open\npaper a bundle 1 1\nat 0.0.0 {word} 1"), 3)
            self.assertEqual(self.told(f"answer open\npaper a bundle 1 1\nat 0.0.0 1 {word}"), 3)
        for word in ("0", "-1", "9" * 18, "-" + "9" * 18):
            self.assertIsNone(self.told(f"answer open\npaper a tree {word}\nhill {word}\nat 0.0.0 {word}"))

    def test_spots(self):
        for word in ("0.0", "0.0.0.0", "-1.0.0", "0.0.00", "x", "0,0,0", "0.0." + "1" * 19, ".0.0"):
            for head, row in (("laid a", f"step {word} 0.0.0"), ("laid a", f"step 0.0.0 {word}"),
                              ("paper a shore", f"spot {word}"),
                              ("paper a cut", f"cut {word}"), ("paper a cut", f"spot {word}"),
                              ("paper a bundle 1 1", f"at {word} 1 1")):
                self.assertEqual(self.told(f"answer open\n{head}\n{row}"), 3, row)

    def test_there_and_back(self):
        chance = random.Random(32)
        for _ in range(300):
            answer = some_answer(chance)
            text = answer_text(answer)
            self.assertEqual(answer_told(read_answer(text)), answer_told(answer))
            self.assertIsNone(self.told(text))

    def test_texts_with_a_fault_by_chance(self):
        chance = random.Random(33)
        faults = 0
        for _ in range(800):
            text = list(answer_text(some_answer(chance)))
            for _ in range(chance.randint(1, 2)):
                place = chance.randrange(len(text) + 1)
                text[place:place + chance.choice([0, 1])] = chance.choice(["", " ", "\n", "0", "1", ".", "-", "a", "z",
                                                                           "\t"])
            faults += self.told("".join(text)) is not None
        self.assertGreater(faults, 300)

    def test_rows_by_chance(self):
        chance = random.Random(34)
        rows = WHOLE.split("\n")[1:] + ["laid c", "paper e tree 1", "hill 1", "at 0.0.0 0", "at 0.0.2 0 0",
                                        "never z shore"]
        for _ in range(600):
            picked = [chance.choice(rows) for _ in range(chance.randint(1, 6))]
            self.told("\n".join(["answer rested"] + picked))

    def test_what_is_told_is_the_askers(self):
        answer = read_answer(WHOLE)
        answer.layout.clear()
        answer.papers["a"].wires.clear()
        self.assertEqual(answer_text(read_answer(WHOLE)), WHOLE)
