"""[7.4], [7.5]: how a board is settled, and what is kept at the end."""

import inspect
import random
import unittest

from tests.helpers import (TWO_BETTERS, line, paper_told, random_board, random_floor, slow_free, slow_others,
                           tight_board)
from wirefloor.board import Board
from wirefloor.bundles import BundlePaper, CutPaper
from wirefloor.deeds import Better, Lay, Swap
from wirefloor.floor import Floor
from wirefloor.layings import paper_alone, paper_of, tried
from wirefloor.legal import layout_price, legal
from wirefloor.papers import ShorePaper
from wirefloor.reader import read_board
from wirefloor.settle import Settled, settle
from wirefloor.things import Bundle, Net
from wirefloor.trees import TreePaper

# One that can be bettered, and two that are left out, though alone they could be laid.
LEFT_OUT = """
floor 2 5 8
layer 3 3
layer 1 2
via 1
toll 3 0.2.2
net t0 0 1 1.4.0 1.2.2
net t1 0 0 0.4.1 0.0.2 1.3.7
net t3 0 0 0.0.3 1.4.6
bundle t5 0 0.0.5 to 1.3.4 0.0.1
net t6 0 0 1.2.0 0.4.6
net t8 0 0 1.1.5 0.1.1
net t9 0 0 0.2.5 1.2.4
"""


def price_of(board, wiring):
    return sum(board.floor.step_price(one, two) for one, two in wiring)


class Settling(unittest.TestCase):
    def walk(self, board, settled, most):
        """The deeds one by one from the empty layout to the last one."""
        layout, betters = {}, 0
        for deed in settled.deeds:
            before = layout
            layout = deed.done(before)
            self.assertTrue(legal(board, layout))
            self.assertEqual(set(before) - set(layout), set())
            paper = paper_of(board, before, deed.name)
            if isinstance(deed, Better):
                betters += 1
                self.assertIn(deed.name, before)
                self.assertEqual(deed.wiring, paper.wires)
                self.assertLess(paper.price, price_of(board, before[deed.name]))
                self.assertLess(layout_price(board, layout), layout_price(board, before))
                self.assertEqual(deed.laid_anew(), [deed.name])
                continue
            self.assertNotIn(deed.name, before)
            self.assertEqual(len(layout), len(before) + 1)
            if isinstance(deed, Lay):
                self.assertEqual((deed.wiring, paper.is_laid()), (paper.wires, True))
            else:
                self.assertIsInstance(deed, Swap)
                attempt = tried(board, before, deed.name)
                self.assertTrue(attempt.worked())
                self.assertEqual((deed.wiring, deed.swapped), (attempt.wiring, attempt.again))
        self.assertEqual(settled.layout, layout)
        self.assertLessEqual(betters, most)
        return betters

    def check_laid(self, board, settled, thing, free):
        wiring = settled.layout[thing.name]
        self.assertEqual(wiring, sorted((min(step), max(step)) for step in wiring))
        could = paper_of(board, settled.layout, thing.name).price < price_of(board, wiring)
        self.assertEqual(thing.name in settled.papers, not could)
        self.assertNotIn(thing.name, settled.nevers)
        self.assertNotIn(thing.name, settled.tries)
        if not could:
            paper = settled.papers[thing.name]
            self.assertIs(paper.__class__, TreePaper if isinstance(thing, Net) else BundlePaper)
            self.assertEqual((paper.wires, paper.price), (wiring, price_of(board, wiring)))
            self.assertTrue(paper.holds(board.floor, free, thing))
        return could

    def check_left_out(self, board, settled, thing, free):
        paper = settled.papers[thing.name]
        self.assertIs(paper.__class__, ShorePaper if isinstance(thing, Net) else CutPaper)
        self.assertTrue(paper.holds(board.floor, free, thing))
        alone = paper_alone(board, thing.name)
        self.assertEqual(thing.name in settled.nevers, not alone.is_laid())
        self.assertEqual(thing.name in settled.tries, alone.is_laid())
        if thing.name in settled.nevers:
            never = settled.nevers[thing.name]
            self.assertEqual(paper_told(never), paper_told(alone))
            self.assertTrue(never.holds(board.floor, slow_free(board.floor, thing, slow_others(board, {}, thing.name)),
                                        thing))
        else:
            kept, attempt = settled.tries[thing.name], tried(board, settled.layout, thing.name)
            self.assertFalse(kept.worked())
            self.assertEqual((kept.name, kept.wiring, kept.torn, kept.again, kept.failed),
                             (attempt.name, attempt.wiring, attempt.torn, attempt.again, attempt.failed))
            self.assertEqual(paper_told(kept.paper), paper_told(attempt.paper))

    def told(self, board, most=None):
        settled = settle(board) if most is None else settle(board, most)
        most = 40 if most is None else most
        self.assertIsInstance(settled, Settled)
        self.assertTrue(legal(board, settled.layout))
        betters = self.walk(board, settled, most)
        could = []
        for thing in board.things():
            free = slow_free(board.floor, thing, slow_others(board, settled.layout, thing.name))
            if thing.name in settled.layout:
                could.append(self.check_laid(board, settled, thing, free))
            else:
                self.check_left_out(board, settled, thing, free)
        self.assertIs(settled.rested, not any(could))
        if any(could):
            self.assertEqual(betters, most)
        names = {thing.name for thing in board.things()}
        for kept in (settled.layout, settled.papers, settled.nevers, settled.tries):
            self.assertLessEqual(set(kept), names)
        return settled

    def test_no_things(self):
        settled = self.told(Board(Floor((1, 1, 1), [(1, 1)], []), []))
        self.assertEqual((settled.layout, settled.deeds, settled.rested), ({}, [], True))
        self.assertEqual((settled.papers, settled.nevers, settled.tries), ({}, {}, {}))

    def test_one_net(self):
        board = Board(Floor((1, 1, 4), [(1, 1)], []), [Net("a", [(0, 0, 3), (0, 0, 0)])])
        settled = self.told(board)
        self.assertEqual(settled.layout, {"a": line(0, 0, 3)})
        self.assertEqual([deed.__class__ for deed in settled.deeds], [Lay])
        self.assertEqual(list(settled.papers), ["a"])

    def test_one_that_is_never_laid(self):
        floor = Floor((1, 1, 4), [(1, 1)], [], [(0, 0, 1)])
        settled = self.told(Board(floor, [Net("a", [(0, 0, 3), (0, 0, 0)])]))
        self.assertEqual((settled.layout, list(settled.papers), list(settled.nevers)), ({}, ["a"], ["a"]))
        settled = self.told(Board(floor, [Bundle("a", [(0, 0, 3)], [(0, 0, 0)])]))
        self.assertEqual((settled.layout, list(settled.papers), list(settled.nevers)), ({}, ["a"], ["a"]))
        self.assertTrue(settled.rested)

    def test_one_of_two(self):
        board = Board(Floor((1, 3, 3), [(1, 1)], []), [Net("a", [(0, 1, 0), (0, 1, 2)]),
                                                       Net("c", [(0, 0, 1), (0, 2, 1)])])
        settled = self.told(board)
        self.assertEqual(len(settled.layout), 1)
        self.assertEqual(len(settled.tries), 1)
        self.assertTrue(settled.rested)

    def test_a_swap(self):
        floor = Floor((2, 3, 5), [(1, 1), (9, 9)], [5], [(1, row, column) for row in (0, 2) for column in range(5)])
        board = Board(floor, [Net("a", [(0, 1, 0), (0, 1, 4)]), Net("c", [(0, 0, 2), (0, 2, 2)])])
        settled = self.told(board)
        self.assertEqual(sorted(settled.layout), ["a", "c"])
        self.assertEqual([deed.__class__ for deed in settled.deeds], [Lay, Swap])

    def test_how_many_betters(self):
        board = read_board(TWO_BETTERS)
        rested = [self.told(board, most).rested for most in (0, 1, 2, 3)]
        self.assertEqual(rested, [False, False, True, True])
        many = [len([deed for deed in settle(board, most).deeds if isinstance(deed, Better)]) for most in (0, 1, 2, 3)]
        self.assertEqual(many, [0, 1, 2, 2])
        self.assertTrue(self.told(board).rested)
        self.assertTrue(settle(board=board, most=2).rested)

    def test_forty_where_it_is_left_out(self):
        self.assertEqual(inspect.signature(settle).parameters["most"].default, 40)

    def test_left_out(self):
        for most, rested in ((0, False), (1, True), (None, True)):
            settled = self.told(read_board(LEFT_OUT), most)
            self.assertEqual(sorted(settled.tries), ["t6", "t8"])
            self.assertEqual(settled.rested, rested)

    def test_another_wiring_of_the_same_price(self):
        # What is told for a laid thing may be laid otherwise than the thing lies; its paper must not be.
        chance = random.Random(28)
        other = 0
        for _ in range(120):
            board = tight_board(chance)
            settled = settle(board)
            for name, wiring in settled.layout.items():
                other += paper_of(board, settled.layout, name).wires != wiring
                self.assertEqual(settled.papers[name].wires, wiring)
        self.assertGreater(other, 0)

    def test_by_the_words(self):
        chance = random.Random(29)
        seen = {Lay: 0, Swap: 0, "nevers": 0, "tries": 0}
        for place in range(120):
            board = tight_board(chance)
            settled = self.told(board, chance.choice([None, 0, 1, 2]))
            for deed in settled.deeds:
                seen[deed.__class__] = seen.get(deed.__class__, 0) + 1
            seen["nevers"] += len(settled.nevers)
            seen["tries"] += len(settled.tries)
        self.assertTrue(all(count > 5 for kind, count in seen.items() if kind != Better), seen)

    def test_wide_things(self):
        chance = random.Random(30)
        for _ in range(40):
            floor = random_floor(chance, (chance.randint(1, 3), chance.randint(4, 9), chance.randint(4, 9)), 0.03, 0.2)
            self.told(random_board(chance, floor, 6, 0.7), chance.choice([None, 0, 1]))

    def test_the_same_each_time(self):
        board = read_board(LEFT_OUT)
        one, two = settle(board), settle(board)
        one.layout["t0"].clear()
        one.deeds.clear()
        one.papers.clear()
        three = settle(board)
        self.assertEqual(two.layout, three.layout)
        self.assertEqual([deed.laid_anew() for deed in two.deeds], [deed.laid_anew() for deed in three.deeds])
        self.assertEqual([paper_told(two.papers[name]) for name in sorted(two.papers)],
                         [paper_told(three.papers[name]) for name in sorted(three.papers)])


class Kept(unittest.TestCase):
    def test_copies(self):
        layout, deeds, papers = {"a": line(0, 0, 2)}, [Lay("a", line(0, 0, 2))], {"a": ShorePaper([])}
        nevers, tries = {"b": ShorePaper([])}, {"c": None}
        settled = Settled(layout, deeds, False, papers, nevers, tries)
        self.assertIs(settled.papers["a"], papers["a"])
        self.assertIs(settled.nevers["b"], nevers["b"])
        self.assertIs(settled.deeds[0], deeds[0])
        layout["a"].clear()
        for kept in (layout, deeds, papers, nevers, tries):
            kept.clear()
        self.assertEqual(settled.layout, {"a": line(0, 0, 2)})
        self.assertEqual(len(settled.deeds), 1)
        self.assertEqual((list(settled.papers), list(settled.nevers), list(settled.tries)), (["a"], ["b"], ["c"]))
        self.assertIs(settled.rested, False)

    def test_named_arguments(self):
        settled = Settled(layout={}, deeds=[], rested=True, papers={}, nevers={}, tries={})
        self.assertIs(settled.rested, True)
