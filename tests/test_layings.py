"""[7.2], [7.3]: what is told for a thing by a layout, and alone; tries."""

import random
import unittest

from tests.helpers import (line, paper_told, plain_floor, random_board, random_floor, slow_clash, slow_free,
                           slow_others, tight_board)
from wirefloor.board import Board
from wirefloor.bundles import BundlePaper, CutPaper, bundled
from wirefloor.floor import Floor
from wirefloor.layings import Try, paper_alone, paper_of, tried
from wirefloor.legal import legal
from wirefloor.papers import ShorePaper
from wirefloor.settle import settle
from wirefloor.things import Bundle, Net
from wirefloor.trees import TreePaper, joined


def slow_paper(board, layout, name):
    thing = board.thing_named(name)
    free = slow_free(board.floor, thing, slow_others(board, layout, name))
    tell = joined if isinstance(thing, Net) else bundled
    return tell(board.floor, free, thing)


def slow_try(board, layout, name):
    """By the words of 7.3: (wiring, torn, again, failed, paper)."""
    thing = board.thing_named(name)
    wiring = slow_paper(board, {}, name).wires
    mine = set(thing.ends()) | {spot for step in wiring for spot in step}
    torn = []
    for other, spots in slow_others(board, layout, name):
        if other.name in layout and any(slow_clash(thing, spot, other, place) for spot in mine for place in spots):
            torn.append(other.name)
    here = dict((one, layout[one]) for one in layout if one not in torn)
    here[name] = wiring
    again = []
    for one in torn:
        paper = slow_paper(board, here, one)
        if not paper.is_laid():
            return wiring, torn, again, one, paper
        here[one] = paper.wires
        again.append((one, paper.wires))
    return wiring, torn, again, None, None


class Papers(unittest.TestCase):
    def setUp(self):
        # Two nets that cross, and a bundle, on one layer and a second one that is dear.
        floor = Floor((1, 5, 5), [(1, 1)], [])
        self.nets = [Net("up", [(0, 0, 2), (0, 4, 2)]), Net("ahead", [(0, 2, 0), (0, 2, 4)]),
                     Bundle("b", [(0, 0, 0)], [(0, 0, 4), (0, 4, 4)])]
        self.board = Board(floor, self.nets)
        self.up = [((0, row, 2), (0, row + 1, 2)) for row in range(4)]

    def test_nothing_laid(self):
        paper = paper_of(self.board, {}, "ahead")
        self.assertIsInstance(paper, TreePaper)
        self.assertEqual((paper.wires, paper.price), (line(2, 0, 4), 4))
        self.assertIsInstance(paper_of(self.board, {}, "b"), BundlePaper)

    def test_beside_the_others_as_they_lie(self):
        layout = {"up": self.up}
        paper = paper_of(self.board, layout, "ahead")
        self.assertIsInstance(paper, ShorePaper)
        self.assertIn((0, 2, 0), paper.spots)
        paper = paper_of(self.board, layout, "b")
        self.assertIsInstance(paper, CutPaper)
        self.assertEqual(paper.cut, ())

    def test_a_thing_that_is_laid(self):
        self.assertEqual(paper_of(self.board, {"up": self.up}, "up").wires, self.up)

    def test_alone(self):
        self.assertEqual(paper_alone(self.board, "ahead").wires, line(2, 0, 4))
        self.assertEqual(paper_alone(board=self.board, name="up").price, 4)
        self.assertTrue(paper_alone(self.board, "b").is_laid())

    def test_beside_ends_of_others_that_are_not_laid(self):
        floor = Floor((1, 1, 5), [(1, 1)], [])
        board = Board(floor, [Net("a", [(0, 0, 0), (0, 0, 4)]), Net("c", [(0, 0, 1), (0, 0, 2)])])
        for paper in (paper_alone(board, "a"), paper_of(board, {}, "a")):
            self.assertEqual(paper_told(paper), ("shore", ((0, 0, 0),)))

    def test_by_the_words(self):
        chance = random.Random(26)
        kinds = set()
        for _ in range(30):
            wide = random_board(chance, random_floor(chance, (2, 6, 6)), 5)
            board = tight_board(chance) if chance.random() < 0.5 else wide
            layout = settle(board, 0).layout
            for thing in board.things():
                for gone in ([], [thing.name], [other.name for other in board.things()][:2]):
                    here = dict((name, wiring) for name, wiring in layout.items() if name not in gone)
                    kept = dict((name, list(wiring)) for name, wiring in here.items())
                    paper = paper_of(board=board, layout=here, name=thing.name)
                    self.assertEqual(here, kept)
                    self.assertEqual(paper_told(paper), paper_told(slow_paper(board, here, thing.name)))
                    free = slow_free(board.floor, thing, slow_others(board, here, thing.name))
                    self.assertTrue(paper.holds(board.floor, free, thing))
                    kinds.add(paper.__class__)
                alone = paper_alone(board, thing.name)
                self.assertEqual(paper_told(alone), paper_told(slow_paper(board, {}, thing.name)))
        self.assertEqual(kinds, {TreePaper, BundlePaper, ShorePaper, CutPaper})


class Tries(unittest.TestCase):
    def told(self, board, layout, name):
        kept = dict((one, list(wiring)) for one, wiring in layout.items())
        told = tried(board, layout, name)
        self.assertEqual(layout, kept)
        wiring, torn, again, failed, paper = slow_try(board, layout, name)
        self.assertEqual((told.name, told.wiring, told.torn, told.again, told.failed),
                         (name, wiring, torn, again, failed))
        self.assertIs(told.worked(), failed is None)
        if failed is None:
            self.assertIsNone(told.paper)
            self.assertEqual([one for one, _ in told.again], told.torn)
            self.assertTrue(legal(board, {**layout, name: told.wiring, **dict(told.again)}))
        else:
            self.assertFalse(told.paper.is_laid())
            self.assertEqual(paper_told(told.paper), paper_told(paper))
            self.assertEqual([one for one, _ in told.again] + [failed], told.torn[:len(told.again) + 1])
        return told

    def test_one_that_works(self):
        # Laid straight on, "a" shuts "c" in; it can go round by the second layer.
        floor = Floor((2, 3, 5), [(1, 1), (9, 9)], [5])
        board = Board(floor, [Net("a", [(0, 1, 0), (0, 1, 4)]), Net("c", [(0, 0, 2), (0, 2, 2)])])
        told = self.told(board, {"a": line(1, 0, 4)}, "c")
        self.assertTrue(told.worked())
        self.assertEqual(told.torn, ["a"])

    def test_one_that_fails(self):
        floor = Floor((1, 3, 5), [(1, 1)], [])
        board = Board(floor, [Net("a", [(0, 1, 0), (0, 1, 4)]), Net("c", [(0, 0, 2), (0, 2, 2)])])
        told = self.told(board, {"a": line(1, 0, 4)}, "c")
        self.assertFalse(told.worked())
        self.assertEqual((told.torn, told.again, told.failed), (["a"], [], "a"))
        self.assertIsInstance(told.paper, ShorePaper)
        self.assertEqual(told.wiring, [((0, 0, 2), (0, 1, 2)), ((0, 1, 2), (0, 2, 2))])

    def test_nothing_in_the_way(self):
        board = Board(plain_floor((1, 3, 5)), [Net("a", [(0, 2, 0), (0, 2, 4)]), Net("c", [(0, 0, 0), (0, 0, 2)])])
        told = self.told(board, {"a": line(2, 0, 4)}, "c")
        self.assertEqual((told.torn, told.again, told.failed, told.paper), ([], [], None, None))
        self.assertTrue(self.told(board, {}, "c").worked())

    def test_only_those_that_clash_are_torn_in_the_boards_order(self):
        floor = Floor((2, 7, 5), [(1, 1), (1, 1)], [1])
        things = [Net(name, [(0, row, 0), (0, row, 4)]) for name, row in (("z", 5), ("m", 1), ("a", 3))]
        things.append(Net("up", [(0, 0, 2), (0, 4, 2)]))
        board = Board(floor, things)
        layout = {"a": line(3, 0, 4), "z": line(5, 0, 4), "m": line(1, 0, 4)}
        told = self.told(board, layout, "up")
        self.assertEqual(told.torn, ["m", "a"])
        self.assertEqual([name for name, _ in told.again], ["m", "a"])
        self.assertTrue(told.worked())

    def test_by_the_words(self):
        chance = random.Random(27)
        worked, failed, later = 0, 0, 0
        for _ in range(180):
            board = tight_board(chance)
            layout, names = {}, [thing.name for thing in board.things()]
            chance.shuffle(names)
            for name in names:
                paper = paper_of(board, layout, name)
                if paper.is_laid():
                    layout[name] = paper.wires
                elif paper_alone(board, name).is_laid():
                    told = self.told(board, layout, name)
                    worked += told.worked()
                    failed += not told.worked()
                    later += not told.worked() and len(told.again) > 0
        self.assertTrue(worked > 10 and failed > 50 and later > 0, (worked, failed, later))

    def test_values(self):
        paper = ShorePaper([])
        wiring, torn, again = line(0, 0, 2), ["a", "c"], [("a", line(1, 0, 2))]
        told = Try("n", wiring, torn, again, "c", paper)
        wiring.clear()
        torn.clear()
        again[0][1].clear()
        again.clear()
        self.assertEqual((told.name, told.wiring, told.torn), ("n", line(0, 0, 2), ["a", "c"]))
        self.assertEqual((told.again, told.failed), ([("a", line(1, 0, 2))], "c"))
        self.assertIs(told.paper, paper)
        self.assertIs(told.worked(), False)
        told = Try(name="n", wiring=[], torn=[], again=[], failed=None, paper=None)
        self.assertIs(told.worked(), True)
        self.assertEqual((told.failed, told.paper), (None, None))
