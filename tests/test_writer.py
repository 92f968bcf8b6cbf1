"""[3.6], [3.7]: how a board is written, and that it is read as the same board again."""

import random
import unittest

from tests.helpers import MOST, plain_floor, random_board, random_floor, spots_in
from wirefloor.board import Board
from wirefloor.floor import Floor
from wirefloor.reader import read_board
from wirefloor.things import Bundle, Net
from wirefloor.writer import thing_row, written


def told(thing):
    if isinstance(thing, Net):
        return ("net", thing.name, thing.half, thing.room, thing.pins)
    return ("bundle", thing.name, thing.half, thing.room, thing.starts, thing.goals)


class ThingRows(unittest.TestCase):
    def test_nets(self):
        self.assertEqual(thing_row(Net("a", [(0, 0, 1), (0, 0, 0)])), "net a 0 0 0.0.1 0.0.0")
        self.assertEqual(thing_row(Net("n12", [(1, 2, 3), (0, 15, 10), (3, 0, 0)], 2, 3)),
                         "net n12 2 3 1.2.3 0.15.10 3.0.0")
        self.assertEqual(thing_row(thing=Net("to", [(0, 0, 1), (0, 0, 0)], 1)), "net to 1 0 0.0.1 0.0.0")

    def test_bundles(self):
        self.assertEqual(thing_row(Bundle("b", [(0, 0, 0)], [(0, 0, 1)])), "bundle b 0 0.0.0 to 0.0.1")
        self.assertEqual(thing_row(Bundle("b", [(2, 0, 0), (1, 1, 1)], [(0, 9, 1), (0, 0, 3), (0, 0, 2)], 3)),
                         "bundle b 3 2.0.0 1.1.1 to 0.9.1 0.0.3 0.0.2")

    def test_ends_that_lie_on_no_floor(self):
        self.assertEqual(thing_row(Net("a", [(10 ** 17, 0, 1), (0, 99, 0)])), "net a 0 0 100000000000000000.0.1 0.99.0")


class Written(unittest.TestCase):
    def same_again(self, board):
        page = written(board)
        again = read_board(page)
        self.assertEqual(again.floor.sizes, board.floor.sizes)
        self.assertEqual(again.floor.layer_prices(), board.floor.layer_prices())
        self.assertEqual(again.floor.via_prices(), board.floor.via_prices())
        self.assertEqual(again.floor.rocks_told(), board.floor.rocks_told())
        self.assertEqual(again.floor.tolls_told(), board.floor.tolls_told())
        self.assertEqual([told(thing) for thing in again.things()], [told(thing) for thing in board.things()])
        self.assertEqual(written(again), page)
        return page.split("\n")

    def test_the_least_board(self):
        self.assertEqual(written(Board(Floor((1, 1, 1), [(1, 2)], []), [])), "floor 1 1 1\nlayer 1 2")

    def test_all_kinds_of_rows_in_their_order(self):
        rocks = [(1, 0, 2), (0, 3, 3), (0, 0, 1), (0, 0, 0), (1, 0, 3)]
        tolls = {(1, 1, 1): 5, (0, 2, 0): 7, (0, 2, 1): 7, (0, 2, 2): 8, (0, 2, 3): 0, (0, 1, 3): 7, (0, 3, 3): 1,
                 (0, 0, 0): 2}
        floor = Floor((2, 4, 4), [(1, 2), (3, 4)], [5], rocks, tolls)
        things = [Net("z", [(0, 1, 0), (0, 1, 1)], 0, 0), Bundle("a", [(1, 2, 0)], [(1, 3, 0), (1, 3, 1)], 1),
                  Net("b", [(0, 3, 0), (0, 3, 1)])]
        self.assertEqual(self.same_again(Board(floor, things)), [
            "floor 2 4 4", "layer 1 2", "layer 3 4", "via 5",
            "rock 0.0.0 0.0.1", "rock 0.3.3", "rock 1.0.2 1.0.3",
            "toll 2 0.0.0", "toll 7 0.1.3", "toll 7 0.2.0 0.2.1", "toll 8 0.2.2", "toll 1 0.3.3", "toll 5 1.1.1",
            "net z 0 0 0.1.0 0.1.1", "bundle a 1 1.2.0 to 1.3.0 1.3.1", "net b 0 0 0.3.0 0.3.1",
        ])

    def test_runs_up_to_a_rows_end_and_on(self):
        spots = [(0, 0, 14), (0, 0, 15), (0, 1, 0), (0, 15, 15), (1, 0, 0), (1, 0, 1)]
        floor = plain_floor((2, 16, 16), spots, dict((spot, 3) for spot in spots))
        rows = self.same_again(Board(floor, []))
        self.assertEqual(rows[4:8], ["rock 0.0.14 0.0.15", "rock 0.1.0", "rock 0.15.15", "rock 1.0.0 1.0.1"])
        self.assertEqual(rows[8:], ["toll 3 0.0.14 0.0.15", "toll 3 0.1.0", "toll 3 0.15.15", "toll 3 1.0.0 1.0.1"])

    def test_the_greatest_size(self):
        sizes = (4, 16, 16)
        whole = Board(Floor(sizes, [(MOST, 1)] * 4, [1, MOST, 2], spots_in(sizes),
                            dict((spot, MOST) for spot in spots_in(sizes))), [])
        rows = self.same_again(whole)
        self.assertEqual(len(rows), 1 + 4 + 3 + 64 + 64)
        self.assertEqual(rows[8], "rock 0.0.0 0.0.15")
        self.assertEqual(rows[-1], f"toll {MOST} 3.15.0 3.15.15")
        chess = [spot for spot in spots_in(sizes) if sum(spot) % 2 == 0]
        rows = self.same_again(Board(plain_floor(sizes, chess,
                                                 dict((spot, 1 + sum(spot) % 2) for spot in spots_in(sizes))), []))
        self.assertEqual(len(rows), 8 + 512 + 1024)

    def test_tolls_of_nought_part_runs_and_are_not_written(self):
        floor = plain_floor((1, 1, 5), [], {(0, 0, 0): 4, (0, 0, 1): 0, (0, 0, 2): 4, (0, 0, 3): 4})
        self.assertEqual(self.same_again(Board(floor, []))[2:], ["toll 4 0.0.0", "toll 4 0.0.2 0.0.3"])

    def test_many_boards(self):
        chance = random.Random(7)
        for _ in range(80):
            sizes = (chance.randint(1, 4), chance.randint(2, 9), chance.randint(2, 9))
            floor = random_floor(chance, sizes, 0.3, 0.4, chance.choice([2, 20, MOST]))
            if len(floor.open_spots()) >= 2:
                self.same_again(random_board(chance, floor, 4))

    def test_a_page_is_read_and_written_plainly(self):
        page = "floor 1 2 3 ; x\n\n  layer 7 8\ntoll 0 0.0.0\nrock 0.1.2 0.1.1\nrock 0.1.1\ntoll 5 0.0.2 0.0.1\n"
        self.assertEqual(written(read_board(page)), "floor 1 2 3\nlayer 7 8\nrock 0.1.1 0.1.2\ntoll 5 0.0.1 0.0.2")

    def test_the_board_stays(self):
        board = read_board("floor 1 2 3\nlayer 7 8\nrock 0.1.2\nnet a 0 0 0.0.1 0.0.0")
        self.assertEqual(written(board), written(board=board))
        self.assertEqual(board.things()[0].pins, ((0, 0, 1), (0, 0, 0)))
