"""[2.6]: the board, what it is refused with, and which refusal goes ahead."""

import unittest

from tests.helpers import plain_floor, refused_by
from wirefloor.board import Board
from wirefloor.errors import Crowded, NoFit, Twice
from wirefloor.things import Bundle, Net


def net(name, row, half=0, room=0, layer=0):
    return Net(name, [(layer, row, 2), (layer, row, 9)], half, room)


class Boards(unittest.TestCase):
    def setUp(self):
        self.floor = plain_floor((2, 12, 12), [(1, 5, 5)])

    def refused(self, things, floor=None):
        error = refused_by(Board, self.floor if floor is None else floor, things)
        return None if error is None else error.__class__

    def test_what_is_kept(self):
        things = [net("b", 2), net("a", 4), Bundle("c", [(1, 0, 0)], [(1, 1, 0)])]
        board = Board(self.floor, things)
        self.assertIs(board.floor, self.floor)
        self.assertEqual(board.things(), things)
        self.assertIsInstance(board.things(), list)
        for thing in things:
            self.assertIs(board.thing_named(thing.name), thing)

    def test_a_name_that_is_none(self):
        board = Board(self.floor, [net("b", 2)])
        for name in ("a", "", "bb", "B", "#", "not a name at all"):
            self.assertIsNone(board.thing_named(name))

    def test_no_things(self):
        board = Board(self.floor, [])
        self.assertEqual(board.things(), [])
        self.assertIsNone(board.thing_named("a"))

    def test_named_arguments(self):
        things = [net("b", 2)]
        board = Board(floor=self.floor, things=things)
        self.assertIs(board.thing_named(name="b"), things[0])

    def test_twice(self):
        self.assertEqual(self.refused([net("a", 2), net("a", 6)]), Twice)
        self.assertEqual(self.refused([net("a", 2), net("b", 6), Bundle("a", [(1, 0, 0)], [(1, 1, 0)])]), Twice)
        self.assertIsNone(self.refused([net("a", 2), net("aa", 6)]))
        thing = net("a", 2)
        self.assertEqual(self.refused([thing, thing]), Twice)

    def test_no_fit(self):
        self.assertEqual(self.refused([net("a", 12)]), NoFit)
        self.assertEqual(self.refused([net("a", -1)]), NoFit)
        self.assertEqual(self.refused([net("a", 0, 1)]), NoFit)
        self.assertEqual(self.refused([Net("a", [(0, 3, 3), (0, 3, 4), (1, 5, 5)])]), NoFit)
        self.assertEqual(self.refused([Net("a", [(1, 4, 6), (1, 2, 2)], 1)]), NoFit)
        self.assertEqual(self.refused([Net("a", [(1, 2, 2), (1, 4, 7)], 1)]), None)
        self.assertEqual(self.refused([Bundle("a", [(1, 5, 5)], [(0, 0, 0)])]), NoFit)
        self.assertEqual(self.refused([Bundle("a", [(0, 5, 5)], [(0, 0, 0), (2, 0, 0)])]), NoFit)
        self.assertEqual(self.refused([Bundle("a", [(0, 5, 5), (0, 0, 12)], [(0, 0, 0), (1, 0, 0)])]), NoFit)
        self.assertEqual(self.refused([net("a", 2), net("b", 12)]), NoFit)

    def test_crowded(self):
        self.assertEqual(self.refused([net("a", 2), net("b", 2)]), Crowded)
        self.assertEqual(self.refused([net("a", 2, room=1), net("b", 3)]), Crowded)
        self.assertEqual(self.refused([net("a", 2), net("b", 3, room=1)]), Crowded)
        self.assertIsNone(self.refused([net("a", 2), net("b", 3)]))
        self.assertIsNone(self.refused([net("a", 2), net("b", 2, layer=1)]))
        self.assertEqual(self.refused([net("a", 2, 2, 3), net("b", 9, 2, 3)]), Crowded)
        self.assertIsNone(self.refused([net("a", 2, 2, 2), net("b", 9, 2, 2)]))
        self.assertEqual(self.refused([net("a", 2), net("b", 6), net("c", 9), net("d", 6)]), Crowded)
        self.assertEqual(self.refused([net("a", 4), Bundle("b", [(1, 0, 0)], [(1, 9, 9), (0, 4, 9)])]), Crowded)

    def test_a_thing_does_not_crowd_itself(self):
        self.assertIsNone(self.refused([Net("a", [(0, 4, 4), (0, 4, 5)], 2, 3)]))
        self.assertIsNone(self.refused([Bundle("a", [(0, 4, 4)], [(0, 4, 5)], 3)]))

    def test_which_goes_ahead(self):
        twice = [net("a", 2), net("a", 8)]
        unfit = [net("x", 12)]
        crowd = [net("c", 5), net("d", 5)]
        self.assertEqual(self.refused(crowd + unfit + twice), Twice)
        self.assertEqual(self.refused(unfit + twice), Twice)
        self.assertEqual(self.refused(crowd + twice), Twice)
        self.assertEqual(self.refused(crowd + unfit), NoFit)
        self.assertEqual(self.refused([net("a", 12), net("a", 12)]), Twice)
        self.assertEqual(self.refused([net("a", 12), net("b", 12)]), NoFit)
        self.assertEqual(self.refused([net("a", 2), net("a", 2)]), Twice)

    def test_lists_changed_behind_the_call(self):
        things = [net("a", 2), net("b", 5)]
        board = Board(self.floor, things)
        kept = list(things)
        things.reverse()
        things.append(net("c", 8))
        self.assertEqual(board.things(), kept)
        self.assertIsNone(board.thing_named("c"))
        told = board.things()
        told.clear()
        self.assertEqual(board.things(), kept)
        self.assertIs(board.thing_named("b"), kept[1])

    def test_the_list_handed_in_stays(self):
        things = [net("b", 2), net("a", 5)]
        kept = list(things)
        Board(self.floor, things)
        self.assertEqual(things, kept)
