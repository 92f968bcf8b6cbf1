"""[8.1], [8.3]: what an answer keeps, and how it is written."""

import random
import unittest

from tests.helpers import is_answer_text, line, some_answer
from wirefloor.answers import Answer, answer_text, paper_rows
from wirefloor.bundles import BundlePaper, CutPaper
from wirefloor.papers import ShorePaper
from wirefloor.trees import TreePaper

A, B, C = (0, 0, 0), (0, 0, 1), (0, 10, 2)


class Answers(unittest.TestCase):
    def test_values(self):
        paper, never = ShorePaper([A]), CutPaper([], [])
        answer = Answer(True, {"a": [(A, B)]}, {"a": paper}, {"b": never})
        self.assertIs(answer.rested, True)
        self.assertEqual(answer.layout, {"a": [(A, B)]})
        self.assertEqual((list(answer.papers), list(answer.nevers)), (["a"], ["b"]))
        self.assertIs(answer.papers["a"], paper)
        self.assertIs(answer.nevers["b"], never)
        self.assertIs(Answer(rested=False, layout={}, papers={}, nevers={}).rested, False)

    def test_dicts_and_lists_changed_behind(self):
        wiring = [(A, B)]
        layout, papers, nevers = {"a": wiring}, {"a": ShorePaper([A])}, {"b": ShorePaper([B])}
        answer = Answer(True, layout, papers, nevers)
        text = answer_text(answer)
        wiring.append((B, C))
        layout["b"] = []
        papers.clear()
        nevers["c"] = ShorePaper([])
        self.assertEqual(answer_text(answer), text)
        self.assertEqual(answer.layout, {"a": [(A, B)]})
        self.assertEqual((list(answer.papers), list(answer.nevers)), (["a"], ["b"]))

    def test_what_is_handed_in_stays(self):
        layout, papers, nevers = {"b": [(A, B)], "a": []}, {"b": ShorePaper([A]), "a": ShorePaper([])}, {}
        answer = Answer(True, layout, papers, nevers)
        answer.layout["a"].append((A, B))
        answer.papers.clear()
        self.assertEqual(layout, {"b": [(A, B)], "a": []})
        self.assertEqual(list(papers), ["b", "a"])


class Papers(unittest.TestCase):
    def told(self, paper):
        told = paper_rows(paper)
        self.assertIsInstance(told, tuple)
        self.assertIsInstance(told[1], list)
        return told

    def test_trees(self):
        hills = [(9, {C: 8, A: 0, B: -3}), (-2, {}), (0, {(2, 0, 0): 1, (1, 99, 99): 2})]
        paper = TreePaper([(B, A), (A, C)], 12, hills)
        self.assertEqual(self.told(paper), ("tree 12", [
            "step 0.0.1 0.0.0", "step 0.0.0 0.10.2", "hill 9", "at 0.0.0 0", "at 0.0.1 -3", "at 0.10.2 8", "hill -2",
            "hill 0", "at 1.99.99 2", "at 2.0.0 1"]))
        self.assertEqual(self.told(TreePaper([], -7, [])), ("tree -7", []))

    def test_bundles(self):
        paper = BundlePaper([(B, A), (B, A)], 3, -4, {C: (1, 2), A: (0, -5), (0, 9, 9): (7, 7)})
        self.assertEqual(self.told(paper), ("bundle 3 -4", [
            "step 0.0.1 0.0.0", "step 0.0.1 0.0.0", "at 0.0.0 0 -5", "at 0.9.9 7 7", "at 0.10.2 1 2"]))
        self.assertEqual(self.told(BundlePaper([], 0, 0, {})), ("bundle 0 0", []))

    def test_shores(self):
        self.assertEqual(self.told(ShorePaper([C, A, A])), ("shore", ["spot 0.10.2", "spot 0.0.0", "spot 0.0.0"]))
        self.assertEqual(self.told(ShorePaper([])), ("shore", []))

    def test_cuts(self):
        self.assertEqual(self.told(CutPaper([C, A], [B, B])),
                         ("cut", ["cut 0.10.2", "cut 0.0.0", "spot 0.0.1", "spot 0.0.1"]))
        self.assertEqual(self.told(CutPaper([], [B])), ("cut", ["spot 0.0.1"]))
        self.assertEqual(self.told(CutPaper([B], [])), ("cut", ["cut 0.0.1"]))
        self.assertEqual(self.told(paper=CutPaper([], [])), ("cut", []))

    def test_what_is_told_is_the_askers(self):
        paper = ShorePaper([A])
        paper_rows(paper)[1].clear()
        self.assertEqual(paper_rows(paper), ("shore", ["spot 0.0.0"]))

    def test_papers_stay(self):
        paper = TreePaper([(B, A)], 3, [(9, {C: 8, A: 0})])
        paper_rows(paper)
        self.assertEqual((paper.wires, list(paper.hills[0][1])), ([(B, A)], [C, A]))


class Texts(unittest.TestCase):
    def test_the_least(self):
        self.assertEqual(answer_text(Answer(True, {}, {}, {})), "answer rested")
        self.assertEqual(answer_text(answer=Answer(False, {}, {}, {})), "answer open")

    def test_all_kinds(self):
        answer = Answer(
            False,
            {"b": [], "ab": line(0, 1, 2) + [(B, A)], "a": [(C, A)]},
            {"d": CutPaper([A], [B]), "b": ShorePaper([C]), "ab": TreePaper([(B, A)], 5, [(4, {A: 0})])},
            {"z": ShorePaper([]), "c": BundlePaper([(A, B)], 1, 2, {A: (0, 3)})})
        self.assertEqual(answer_text(answer).split("\n"), [
            "answer open", "laid a", "step 0.10.2 0.0.0", "laid ab", "step 0.0.1 0.0.2", "step 0.0.1 0.0.0", "laid b",
            "paper ab tree 5", "step 0.0.1 0.0.0", "hill 4", "at 0.0.0 0", "paper b shore", "spot 0.10.2",
            "paper d cut", "cut 0.0.0", "spot 0.0.1", "never c bundle 1 2", "step 0.0.0 0.0.1", "at 0.0.0 0 3",
            "never z shore"])

    def test_names_in_the_order_of_texts(self):
        names = ["b", "a", "ab", "a0", "b10", "b9", "abc"]
        answer = Answer(True, dict((name, []) for name in names), {}, {})
        self.assertEqual(answer_text(answer).split("\n")[1:],
                         ["laid a", "laid a0", "laid ab", "laid abc", "laid b", "laid b10", "laid b9"])

    def test_many(self):
        chance = random.Random(31)
        for _ in range(200):
            self.assertTrue(is_answer_text(answer_text(some_answer(chance))))
