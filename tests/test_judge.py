"""[9.1]: how an answer is judged on a board."""

import random
import unittest

from tests.helpers import line, random_board, random_floor, slow_free, slow_others, tight_board
from wirefloor.answers import Answer
from wirefloor.board import Board
from wirefloor.bundles import BundlePaper, CutPaper
from wirefloor.floor import Floor
from wirefloor.judge import answer_good, judged
from wirefloor.legal import faults
from wirefloor.papers import ShorePaper
from wirefloor.settle import settle
from wirefloor.things import Bundle, Net
from wirefloor.trees import TreePaper


def holds(board, layout, thing, paper):
    return paper.holds(board.floor, slow_free(board.floor, thing, slow_others(board, layout, thing.name)), thing)


def slow_judged(board, answer):
    """By the words of 9.1, but for the layout's faults."""
    told = list(faults(board, answer.layout))
    for thing in board.things():
        name, paper = thing.name, answer.papers.get(thing.name)
        if name in answer.layout:
            if paper is None:
                told += [("bare", name)] if answer.rested else []
            elif not paper.is_laid() or paper.wires != answer.layout[name]:
                told.append(("paper", name))
            elif not holds(board, answer.layout, thing, paper):
                told.append(("paper", name))
            continue
        if paper is None:
            told.append(("bare", name))
        elif paper.is_laid() or not holds(board, answer.layout, thing, paper):
            told.append(("paper", name))
        never = answer.nevers.get(name)
        if never is not None and (never.is_laid() or not holds(board, {}, thing, never)):
            told.append(("never", name))
    known = [thing.name for thing in board.things()]
    names = {name for name in [*answer.papers, *answer.nevers] if name not in known}
    names |= {name for name in answer.nevers if name in answer.layout}
    return told + [("stranger", name) for name in sorted(names)]


def answer_of(board, most=40):
    settled = settle(board, most)
    return Answer(settled.rested, settled.layout, settled.papers, settled.nevers)


class Judging(unittest.TestCase):
    """Two nets that cross on one layer, a bundle at the side, and a net that a wall of rocks shuts in for good."""

    def setUp(self):
        rocks = [(0, 5, 0), (0, 5, 1), (0, 6, 1)]
        floor = Floor((1, 7, 7), [(1, 1)], [], rocks)
        self.board = Board(floor, [Net("z", [(0, 0, 3), (0, 4, 3)]), Net("c", [(0, 1, 0), (0, 1, 5)]),
                                   Net("shut", [(0, 6, 0), (0, 6, 3)]),
                                   Bundle("b", [(0, 6, 6)], [(0, 5, 6), (0, 0, 6)])])
        self.answer = answer_of(self.board)
        self.assertEqual(sorted(self.answer.layout), ["b", "c", "z"])
        self.assertEqual(sorted(self.answer.nevers), ["shut"])

    def told(self, **changes):
        """What judging tells, of the good answer with some parts of it otherwise."""
        kept = dict(rested=self.answer.rested, layout=self.answer.layout, papers=self.answer.papers,
                    nevers=self.answer.nevers)
        answer = Answer(**{**kept, **changes})
        told = judged(self.board, answer)
        self.assertIsInstance(told, list)
        self.assertEqual(told, slow_judged(self.board, answer))
        self.assertIs(answer_good(self.board, answer), told == [])
        return told

    def without(self, kept, *names):
        return dict((name, kept[name]) for name in kept if name not in names)

    def test_a_good_one(self):
        self.assertEqual(self.told(), [])
        self.assertTrue(answer_good(board=self.board, answer=self.answer))
        self.assertEqual(judged(board=self.board, answer=self.answer), [])

    def test_faults_of_the_layout_come_first(self):
        told = self.told(layout={**self.answer.layout, "q": [], "b": []})
        self.assertEqual(told, [("stranger", "q"), ("shape", "b"), ("paper", "b")])

    def test_bare(self):
        papers = self.answer.papers
        self.assertEqual(self.told(papers=self.without(papers, "z")), [("bare", "z")])
        self.assertEqual(self.told(papers=self.without(papers, "shut")), [("bare", "shut")])
        self.assertEqual(self.told(papers={}), [("bare", "z"), ("bare", "c"), ("bare", "shut"), ("bare", "b")])

    def test_bare_where_it_is_not_rested(self):
        papers = self.answer.papers
        self.assertEqual(self.told(rested=False), [])
        self.assertEqual(self.told(rested=False, papers=self.without(papers, "z")), [])
        self.assertEqual(self.told(rested=False, papers={}), [("bare", "shut")])

    def test_papers_that_do_not_lay(self):
        papers = self.answer.papers
        for paper in (papers["shut"], ShorePaper([]), CutPaper([], [])):
            for name in ("z", "b"):
                self.assertEqual(self.told(papers={**papers, name: paper}), [("paper", name)])

    def test_papers_that_lay_where_none_may(self):
        papers = self.answer.papers
        for paper in (papers["z"], papers["b"], TreePaper([], 0, [])):
            self.assertEqual(self.told(papers={**papers, "shut": paper}), [("paper", "shut")])
            self.assertEqual(self.told(nevers={"shut": paper}), [("never", "shut")])

    def test_papers_that_hold_and_lay_a_thing_that_is_not_laid(self):
        # The paper is as it was, but the thing isn't laid any more.
        told = self.told(layout=self.without(self.answer.layout, "b"))
        self.assertEqual(told, [("paper", "b")])

    def test_papers_under_another_name(self):
        papers = self.answer.papers
        told = self.told(papers={**papers, "z": papers["c"], "c": papers["z"]})
        self.assertEqual(told, [("paper", "z"), ("paper", "c")])

    def test_wirings_turned_round(self):
        wiring = self.answer.layout["z"]
        turned = [(two, one) for one, two in wiring]
        self.assertEqual(self.told(layout={**self.answer.layout, "z": turned}), [("paper", "z")])
        self.assertEqual(self.told(layout={**self.answer.layout, "z": wiring[::-1]}), [("paper", "z")])
        paper = self.answer.papers["z"]
        turned_paper = TreePaper(turned, paper.price, paper.hills)
        self.assertEqual(self.told(papers={**self.answer.papers, "z": turned_paper}), [("paper", "z")])
        told = self.told(papers={**self.answer.papers, "z": turned_paper}, layout={**self.answer.layout, "z": turned})
        self.assertEqual(told, [])

    def test_papers_that_do_not_hold(self):
        papers = self.answer.papers
        tree, bundle = papers["z"], papers["b"]
        wrong = [("z", TreePaper(tree.wires, tree.price + 1, tree.hills)), ("z", TreePaper(tree.wires, tree.price, [])),
                 ("b", BundlePaper(bundle.wires, bundle.price, bundle.depth + 1, bundle.heights)),
                 ("b", BundlePaper(bundle.wires, bundle.price, bundle.depth, {})), ("shut", ShorePaper([])),
                 ("shut", ShorePaper([(0, 6, 0), (0, 6, 1)])), ("z", BundlePaper(tree.wires, tree.price, 0, {})),
                 ("shut", CutPaper([], [(0, 6, 0)])), ("shut", ShorePaper([(9, 9, 9)]))]
        for name, paper in wrong:
            self.assertEqual(self.told(papers={**papers, name: paper}), [("paper", name)])

    def test_nevers(self):
        good = self.answer.nevers["shut"]
        self.assertEqual(self.told(nevers={}), [])
        for paper in (ShorePaper([]), ShorePaper([(0, 6, 3)]), CutPaper([], good.spots), self.answer.papers["z"]):
            self.assertEqual(self.told(nevers={"shut": paper}), [("never", "shut")])

    def test_never_by_the_others_ends_alone(self):
        # Beside the others as they lie the shore holds, but not where none of them is laid.
        floor = Floor((1, 3, 3), [(1, 1)], [])
        board = Board(floor, [Net("a", [(0, 1, 0), (0, 1, 2)]), Net("c", [(0, 0, 1), (0, 2, 1)])])
        answer = answer_of(board)
        left = [thing.name for thing in board.things() if thing.name not in answer.layout][0]
        self.assertEqual(judged(board, answer), [])
        answer = Answer(True, answer.layout, answer.papers, {left: answer.papers[left]})
        self.assertEqual(judged(board, answer), [("never", left)])
        self.assertEqual(judged(board, answer), slow_judged(board, answer))

    def test_paper_and_never_of_one_thing(self):
        told = self.told(papers=self.without(self.answer.papers, "shut"), nevers={"shut": ShorePaper([])})
        self.assertEqual(told, [("bare", "shut"), ("never", "shut")])
        told = self.told(papers={**self.answer.papers, "shut": ShorePaper([])}, nevers={"shut": ShorePaper([])})
        self.assertEqual(told, [("paper", "shut"), ("never", "shut")])

    def test_strangers(self):
        papers, nevers = self.answer.papers, self.answer.nevers
        self.assertEqual(self.told(papers={**papers, "q": ShorePaper([])}), [("stranger", "q")])
        self.assertEqual(self.told(nevers={**nevers, "q": ShorePaper([])}), [("stranger", "q")])
        both = self.told(papers={**papers, "q": papers["z"]}, nevers={**nevers, "q": ShorePaper([])})
        self.assertEqual(both, [("stranger", "q")])
        self.assertEqual(self.told(nevers={**nevers, "z": ShorePaper([])}), [("stranger", "z")])
        told = self.told(papers={**papers, "qq": papers["z"], "a": papers["z"]},
                         nevers={**nevers, "q": papers["z"], "b": papers["b"]})
        self.assertEqual(told, [("stranger", "a"), ("stranger", "b"), ("stranger", "q"), ("stranger", "qq")])

    def test_a_stranger_that_is_laid(self):
        told = self.told(layout={**self.answer.layout, "q": []}, nevers={**self.answer.nevers, "q": ShorePaper([])})
        self.assertEqual(told, [("stranger", "q"), ("stranger", "q")])
        self.assertEqual(self.told(layout={**self.answer.layout, "q": []}), [("stranger", "q")])

    def test_rested_turned_round(self):
        self.assertEqual(self.told(rested=not self.answer.rested), [])
        self.assertEqual(self.told(rested=True, papers=self.without(self.answer.papers, "b", "c")),
                         [("bare", "c"), ("bare", "b")])

    def test_several_at_once_in_their_order(self):
        papers = self.answer.papers
        # "z" lies across "c", which is told first; "b" is no sound wiring; a stranger is laid, another has a paper.
        layout = {"z": [((0, row, 3), (0, row + 1, 3)) for row in range(4)], "c": line(1, 0, 5), "b": [], "x": []}
        told = self.told(layout=layout, papers={"c": papers["z"], "b": papers["b"], "y": papers["b"]},
                         nevers={"shut": ShorePaper([]), "c": ShorePaper([])})
        self.assertEqual(told, [("stranger", "x"), ("shape", "b"), ("near", "z", "c"), ("bare", "z"), ("paper", "c"),
                                ("bare", "shut"), ("never", "shut"), ("paper", "b"), ("stranger", "c"),
                                ("stranger", "y")])

    def test_layouts_with_spots_outside(self):
        far = [((0, -1, 0), (0, 99, 99)), ((9, 9, 9), (10 ** 17, 0, 0))]
        told = self.told(layout={**self.answer.layout, "z": far})
        self.assertIn(("shape", "z"), told)
        self.assertIn(("paper", "z"), told)
        self.told(layout={**self.answer.layout, "z": far}, papers={**self.answer.papers, "z": TreePaper(far, 3, [])})

    def test_what_is_handed_in_stays(self):
        kept = (dict(self.answer.layout), dict(self.answer.papers), dict(self.answer.nevers))
        judged(self.board, self.answer).append("x")
        self.assertEqual((self.answer.layout, self.answer.papers, self.answer.nevers), kept)
        self.assertEqual(judged(self.board, self.answer), [])


class ByTheWords(unittest.TestCase):
    def changed(self, chance, answer, names):
        """An answer with something of it otherwise."""
        layout, papers, nevers = dict(answer.layout), dict(answer.papers), dict(answer.nevers)
        kept = chance.choice([layout, papers, nevers])
        name, other = chance.choice(names + ["q"]), chance.choice(names + ["r"])
        turn = chance.choice(["drop", "copy", "wiring", "rested"])
        if turn == "drop":
            kept.pop(name, None)
        elif turn == "copy" and name in kept:
            kept[other] = kept[name]
        elif turn == "wiring" and name in layout:
            layout[name] = chance.choice([layout[name][1:], layout[name][::-1], layout[name] + layout[name][:1]])
        rested = not answer.rested if turn == "rested" else answer.rested
        if chance.random() < 0.2 and papers:
            nevers[name] = chance.choice(list(papers.values()))
        return Answer(rested, layout, papers, nevers)

    def test_many_answers(self):
        chance = random.Random(35)
        seen = {}
        for _ in range(60):
            wide = random_board(chance, random_floor(chance, (2, 5, 6)), 5)
            board = tight_board(chance) if chance.random() < 0.7 else wide
            answer = answer_of(board, chance.choice([0, 1, 40]))
            self.assertEqual(judged(board, answer), [])
            for _ in range(4):
                answer = self.changed(chance, answer, [thing.name for thing in board.things()])
                told = judged(board, answer)
                self.assertEqual(told, slow_judged(board, answer))
                for fault in told:
                    seen[fault[0]] = seen.get(fault[0], 0) + 1
        self.assertTrue(all(seen.get(kind, 0) > 3 for kind in ("bare", "paper", "never", "stranger", "shape")), seen)
