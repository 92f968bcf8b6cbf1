"""[3.3], [3.4], [3.5]: the kinds of rows, which row is refused, and in which order all else is."""

import itertools
import unittest

from tests.helpers import MOST, refused_by, spots_in
from wirefloor.errors import BadPrice, BadRow, BadSize, BadThing, Crowded, NoFit, OutOfFloor, Twice
from wirefloor.reader import read_board
from wirefloor.things import Bundle, Net

HEAD = "floor 2 4 5\nlayer 1 2\nlayer 3 4\nvia 5\n"


def refused(page):
    error = refused_by(read_board, page)
    return None if error is None else error.__class__


def bad_row(page):
    """The number of the row that a page is refused for, or None."""
    error = refused_by(read_board, page)
    if error is not None and error.__class__ != BadRow:
        raise error
    return None if error is None else error.row


class WellWritten(unittest.TestCase):
    def test_a_whole_page(self):
        page = """
            ; a floor of two layers
            floor 2 4 5
            layer 1 2   ; the lower one
            layer 3 4
            via 5
            rock 0.0.0 0.1.1
            rock 1.3.4
            toll 9 0.3.0 0.3.2
            toll 7 1.0.0;
            net a 0 0 0.2.3 1.2.3 0.0.3
            bundle b 1 1.0.0 to 1.0.1 1.1.1
        """
        board = read_board(page)
        self.assertEqual(board.floor.sizes, (2, 4, 5))
        self.assertIsInstance(board.floor.sizes, tuple)
        self.assertEqual(board.floor.layer_prices(), [(1, 2), (3, 4)])
        self.assertEqual(board.floor.via_prices(), [5])
        self.assertEqual(board.floor.rocks_told(), [(0, 0, 0), (0, 0, 1), (0, 1, 0), (0, 1, 1), (1, 3, 4)])
        self.assertEqual(board.floor.tolls_told(), [((0, 3, 0), 9), ((0, 3, 1), 9), ((0, 3, 2), 9), ((1, 0, 0), 7)])
        net, bundle = board.things()
        self.assertIsInstance(net, Net)
        self.assertEqual((net.name, net.half, net.room, net.pins), ("a", 0, 0, ((0, 2, 3), (1, 2, 3), (0, 0, 3))))
        self.assertIsInstance(bundle, Bundle)
        self.assertEqual((bundle.name, bundle.room), ("b", 1))
        self.assertEqual((bundle.starts, bundle.goals), (((1, 0, 0),), ((1, 0, 1), (1, 1, 1))))

    def test_the_least_page(self):
        board = read_board("floor 1 1 1\nlayer 1 1")
        self.assertEqual((board.floor.sizes, board.things()), ((1, 1, 1), []))

    def test_the_greatest_page(self):
        rows = ["floor 4 16 16"] + [f"layer {MOST} {MOST}"] * 4 + [f"via {MOST}"] * 3 + [f"toll {MOST} 0.0.0 3.15.15"]
        board = read_board("\n".join(rows))
        self.assertEqual(len(board.floor.tolls_told()), 1024)
        self.assertEqual(board.floor.step_price((0, 0, 0), (1, 0, 0)), 3 * MOST)

    def test_layers_and_vias_from_the_lowest_on(self):
        board = read_board("floor 3 1 1\nvia 7\nlayer 1 2\nlayer 3 4\nvia 8\nlayer 5 6")
        self.assertEqual(board.floor.layer_prices(), [(1, 2), (3, 4), (5, 6)])
        self.assertEqual(board.floor.via_prices(), [7, 8])

    def test_other_kinds_in_any_order(self):
        head, *rows = (HEAD + "rock 0.0.0\ntoll 3 0.0.1\nnet a 0 0 1.0.0 1.0.1").split("\n")
        for order in itertools.islice(itertools.permutations(rows), 0, 720, 13):
            board = read_board("\n".join([head] + list(order)))
            self.assertEqual(sorted(board.floor.layer_prices()), [(1, 2), (3, 4)])
            self.assertEqual(board.floor.rocks_told(), [(0, 0, 0)])
            self.assertEqual(board.floor.tolls_told(), [((0, 0, 1), 3)])
            self.assertEqual([thing.name for thing in board.things()], ["a"])

    def test_things_in_the_order_of_their_rows(self):
        board = read_board(HEAD + "net c 0 0 0.0.0 0.0.1\nbundle a 0 0.1.0 to 0.1.1\nnet b 0 0 0.2.0 0.2.1")
        self.assertEqual([thing.name for thing in board.things()], ["c", "a", "b"])

    def test_boxes_by_any_two_corners(self):
        want = [(layer, row, column) for layer in (0, 1) for row in (1, 2) for column in (2, 3, 4)]
        for layers in ((0, 1), (1, 0)):
            for rows in ((1, 2), (2, 1)):
                for columns in ((2, 4), (4, 2)):
                    one, two = [".".join(str(part) for part in corner) for corner in zip(layers, rows, columns)]
                    self.assertEqual(read_board(HEAD + f"rock {one} {two}").floor.rocks_told(), want)
                    told = read_board(HEAD + f"toll 6 {one} {two}").floor.tolls_told()
                    self.assertEqual(told, [(spot, 6) for spot in want])

    def test_a_later_toll_goes_ahead(self):
        board = read_board(HEAD + "toll 6 0.0.0 0.0.3\ntoll 0 0.0.1\ntoll 8 0.0.2 1.0.2\ntoll 2 1.0.2")
        self.assertEqual(board.floor.tolls_told(), [((0, 0, 0), 6), ((0, 0, 2), 8), ((0, 0, 3), 6), ((1, 0, 2), 2)])

    def test_rocks_over_rocks_and_tolls_on_rocks(self):
        board = read_board(HEAD + "rock 0.0.0 0.0.2\ntoll 4 0.0.1\nrock 0.0.2 0.0.1")
        self.assertEqual(board.floor.rocks_told(), [(0, 0, 0), (0, 0, 1), (0, 0, 2)])
        self.assertEqual(board.floor.tolls_told(), [((0, 0, 1), 4)])

    def test_the_word_to_as_a_name(self):
        board = read_board(HEAD + "net to 0 0 0.0.0 0.0.1\nnet a 0 0 1.0.0 1.0.1")
        self.assertEqual([thing.name for thing in board.things()], ["to", "a"])
        board = read_board(HEAD + "bundle to 0 0.0.0 to 0.0.1")
        self.assertEqual((board.things()[0].name, board.things()[0].goals), ("to", ((0, 0, 1),)))

    def test_names_like_kinds_of_rows(self):
        board = read_board(HEAD + "net floor 0 0 0.0.0 0.0.1\nnet rock 0 0 1.0.0 1.0.1")
        self.assertEqual([thing.name for thing in board.things()], ["floor", "rock"])

    def test_most_ends(self):
        starts = " ".join(f"0.{row}.0" for row in range(4)) + " 1.0.0 1.1.0"
        goals = " ".join(f"{layer}.{row}.{column}" for layer in (0, 1) for row in (0, 1, 2) for column in (3, 4))
        board = read_board(HEAD + f"bundle b 3 {starts} to {goals}")
        self.assertEqual((len(board.things()[0].starts), len(board.things()[0].goals)), (6, 12))
        self.assertEqual(len(read_board(HEAD + f"net n 0 3 {starts}").things()[0].pins), 6)


class BadRows(unittest.TestCase):
    def test_pages_on_which_no_row_says_anything(self):
        for page in ("", "\n", "\n\n\n", "   ", ";", "; floor 1 1 1", "\n;\n  ; x\n"):
            self.assertEqual(bad_row(page), 1, page)

    def test_no_floor_row_ahead(self):
        self.assertEqual(bad_row("layer 1 1"), 1)
        self.assertEqual(bad_row("layer 1 1\nfloor 1 1 1"), 1)
        self.assertEqual(bad_row("\n;\nrock 0.0.0\nfloor 1 1 1\nlayer 1 1"), 3)
        self.assertEqual(bad_row("net a 0 0\nfloor x"), 1)

    def test_a_second_floor_row(self):
        self.assertEqual(bad_row("floor 1 1 1\nfloor 1 1 1\nlayer 1 1"), 2)
        self.assertEqual(bad_row("floor 1 1 1\nlayer 1 1\n\nfloor 1 1 1"), 4)
        self.assertEqual(bad_row("floor 1 1 1\nlayer 1 1\n ; floor\n\nfloor 1 1"), 5)

    def test_every_kind_badly_written(self):
        bad = [
            "floor", "layer", "layer 1", "layer 1 2 3", "layer 1 x", "layer x 1", "layer 01 1", "layer 1 -1",
            "layer 1.0 1",
            "layer " + "1" * 19 + " 1", "via", "via 1 2", "via x", "via -1", "via 00", "via 0.0.0", "rock", "rock 0.0",
            "rock 1", "rock 0.0.0 0.0.1 0.0.2", "rock 0.0.0 x", "rock x 0.0.0", "rock 0.0.0 1", "rock 0.0.0.0",
            "rock 0.0.0,0.0.1", "toll", "toll 1", "toll 0.0.0", "toll x 0.0.0", "toll 1 x", "toll 1 0.0.0 0.0.1 0.0.2",
            "toll 1 0.0.0 2", "toll 1 2 0.0.0", "toll -1 0.0.0", "toll 1 0.0", "net", "net a", "net a 0",
            "net a 0 x 0.0.0",
            "net a x 0 0.0.0", "net a 0 0 x", "net a 0 0 0.0.0 x 0.0.1", "net a 0 0 0.0.0 0.0.1 to",
            "net a 0 0.0.0 0.0.1",
            "net 0 0 0.0.0 0.0.1", "net a 0 -1 0.0.0 0.0.1", "net a 0 0 0.0.0 0.0.1 2", "bundle", "bundle b",
            "bundle b 0",
            "bundle b to", "bundle b 0 0.0.0 0.0.1", "bundle b 0 0.0.0 to 0.0.1 to 0.0.2", "bundle b 0 to to",
            "bundle to",
            "bundle b x to 0.0.0", "bundle b 0 x to 0.0.0", "bundle b 0 0.0.0 to x", "bundle b 0 0.0.0 to 0.0.1 x",
            "bundle b 0 0 0.0.0 to 0.0.1", "bundle b 0 0.0.0 TO 0.0.1", "bundle to 0 0.0.0 0.0.1",
            "bundle b 0.0.0 to 0.0.1",
            "bundle to to 0.0.0", "bundle 0 0.0.0 to 0.0.1", "Net a 0 0 0.0.0 0.0.1", "nets a 0 0 0.0.0 0.0.1",
            "ROCK 0.0.0", "a", "0", "0.0.0", "to", "rock\t0.0.0", "rocks 0.0.0", "remark", "# x", "floor 1 1 1", "-",
        ]
        for row in bad:
            self.assertEqual(bad_row(HEAD + row), 5, row)
            self.assertEqual(bad_row(HEAD + "\n ; x\n" + row + " ; y\nxx"), 7, row)

    def test_the_floor_row_badly_written(self):
        for row in ("floor", "floor 1", "floor 1 1", "floor 1 1 1 1", "floor 1 1 x", "floor x 1 1", "floor 1 01 1",
                    "floor 1.1.1",
                    "floor -1 1 1", "floor 1 1 " + "1" * 19, "Floor 1 1 1", "floors 1 1 1", "floor\t1 1 1"):
            self.assertEqual(bad_row(row + "\nlayer 1 1"), 1, row)
            self.assertEqual(bad_row(";\n\n" + row + "\nlayer 1 1"), 3, row)

    def test_the_first_bad_row_is_told(self):
        self.assertEqual(bad_row(HEAD + "x\ny\nz"), 5)
        self.assertEqual(bad_row(HEAD + "rock 0.0.0\n\n;x\nrock 0\nfloor 1 1 1"), 8)
        self.assertEqual(bad_row("floor 1 1\nx"), 1)

    def test_a_bad_row_goes_ahead_of_all_else(self):
        for row in ("floor 9 9 9", "floor 0 1 1"):
            self.assertEqual(bad_row(row + "\nlayer 0 0\nx"), 3)
        wrong = ["layer 0 0", "via 0", "rock 9.9.9", "toll 9999999999999 0.0.0", "net A 9 9", "bundle b 9 to",
                 "net a 0 0 9.9.9"]
        for row in wrong:
            self.assertEqual(bad_row(HEAD + row + "\nx"), 6, row)

    def test_well_written_with_what_is_refused_later(self):
        self.assertEqual(refused(HEAD + "net a 0 0"), BadThing)
        self.assertEqual(refused(HEAD + "bundle b 0 to"), BadThing)
        self.assertEqual(refused(HEAD + "bundle b 0 to 0.0.0"), BadThing)
        self.assertEqual(refused(HEAD + "bundle b 0 0.0.0 to"), BadThing)
        self.assertEqual(refused(HEAD + "bundle to 0 to"), BadThing)
        for name in ("A", "0", "0.0.0", "a-b", "#", "abcdefghijklm", "x_y", "\t"):
            self.assertEqual(refused(HEAD + f"net {name} 0 0 0.0.0 0.0.1"), BadThing, name)
            self.assertEqual(refused(HEAD + f"bundle {name} 0 0.0.0 to 0.0.1"), BadThing, name)


class OtherRefusals(unittest.TestCase):
    # Rows that make a page wrong, in the order in which it is refused for them.
    RANKS = [
        (BadSize, ["layer 9 9", "via 9"]),
        (BadPrice, ["toll 1000000000001 0.0.0", "toll 1000000000001 0.0.0\ntoll 1 0.0.0",
                    "toll 999999999999999999 7.7.7"]),
        (OutOfFloor, ["rock 0.0.5", "rock 0.4.0 0.0.0", "toll 1 2.0.0", "toll 1 0.0.0 0.0.5",
                      "rock 0.0.0 999999999999999999.999999999999999999.999999999999999999"]),
        (BadThing, ["net a 0 0", "net B 0 0 0.0.0 0.0.1", "net b 3 0 0.0.0 0.0.1", "bundle c 4 0.0.0 to 0.0.1",
                    "net d 0 0 0.3.0 0.3.0", "bundle e 0 0.0.0 0.0.1 to 0.0.2"]),
        (Twice, ["net f 0 0 1.0.0 1.0.1\nnet f 0 0 1.2.0 1.2.1"]),
        (NoFit, ["net g 0 0 0.0.0 0.0.5", "net h 1 0 0.0.0 0.2.2", "rock 1.3.3\nnet i 0 0 1.3.3 1.3.4",
                 "bundle j 0 0.0.0 to 0.999999999999999999.0"]),
        (Crowded, ["net k 0 0 1.1.0 1.1.4\nnet l 0 0 1.1.4 1.2.4", "net m 0 1 1.1.0 1.1.4\nbundle n 0 1.2.3 to 1.3.3"]),
    ]

    def test_each_alone(self):
        self.assertIsNone(refused(HEAD))
        for error, rows in self.RANKS:
            for row in rows:
                self.assertEqual(refused(HEAD + row), error, row)

    def test_each_two_at_once(self):
        for one in range(len(self.RANKS)):
            for two in range(one + 1, len(self.RANKS)):
                for row in self.RANKS[one][1]:
                    for other in self.RANKS[two][1]:
                        self.assertEqual(refused(HEAD + row + "\n" + other), self.RANKS[one][0], (row, other))
                        self.assertEqual(refused(HEAD + other + "\n" + row), self.RANKS[one][0], (other, row))

    def test_sizes(self):
        for sizes in ("0 1 1", "5 1 1", "1 0 1", "1 17 1", "1 1 0", "1 1 17", "1 1 999999999999999999", "0 0 0"):
            layers = int(sizes.split()[0])
            page = f"floor {sizes}" + "\nlayer 1 1" * layers + "\nvia 1" * max(0, layers - 1)
            self.assertEqual(refused(page), BadSize, sizes)
            self.assertEqual(refused(page + "\nrock 0.0.0 9.9.9\nlayer 0 0\nnet A 0 0"), BadSize, sizes)
        self.assertEqual(refused("floor 999999999999999999 1 1\nlayer 1 1"), BadSize)

    def test_not_as_many_layers_or_vias(self):
        self.assertEqual(refused("floor 1 1 1"), BadSize)
        self.assertEqual(refused("floor 2 1 1\nlayer 1 1\nvia 1"), BadSize)
        self.assertEqual(refused("floor 2 1 1\nlayer 1 1\nlayer 1 1"), BadSize)
        self.assertEqual(refused("floor 2 1 1\nlayer 1 1\nlayer 1 1\nvia 1\nvia 1"), BadSize)
        self.assertEqual(refused("floor 1 1 1\nlayer 1 1\nlayer 1 1"), BadSize)
        self.assertEqual(refused("floor 1 1 1\nlayer 1 1\nvia 1"), BadSize)

    def test_prices(self):
        for pair in ("0 1", "1 0", f"{MOST + 1} 1", f"1 {MOST + 1}", "999999999999999999 1"):
            self.assertEqual(refused(f"floor 1 1 1\nlayer {pair}"), BadPrice, pair)
        for via in ("0", f"{MOST + 1}"):
            self.assertEqual(refused(f"floor 2 1 1\nlayer 1 1\nlayer 1 1\nvia {via}"), BadPrice, via)
        self.assertIsNone(refused(HEAD + f"toll {MOST} 0.0.0\ntoll 0 0.0.1"))

    def test_prices_go_ahead_of_spots_outside(self):
        wrong = ["layer 0 1\nlayer 1 1\nvia 1", "layer 1 1\nlayer 1 1\nvia 0"]
        for rows in wrong:
            self.assertEqual(refused("floor 2 1 1\nrock 9.9.9\n" + rows), BadPrice)

    def test_either_corner_outside(self):
        outside = ["2.0.0", "0.4.0", "0.0.5", "999999999999999999.0.0"]
        for spot in outside:
            for row in (f"rock {spot}", f"rock {spot} 0.0.0", f"rock 0.0.0 {spot}", f"rock {spot} {spot}"):
                self.assertEqual(refused(HEAD + row), OutOfFloor, row)
                self.assertEqual(refused(HEAD + row.replace("rock", "toll 1")), OutOfFloor, row)
                self.assertEqual(refused(HEAD + row.replace("rock", "toll 0")), OutOfFloor, row)

    def test_a_toll_outside_that_a_later_row_would_go_ahead_of(self):
        self.assertEqual(refused(HEAD + "toll 1 0.0.0 0.0.5\ntoll 2 0.0.0 0.0.4"), OutOfFloor)

    def test_spots_of_things_outside_are_looked_at_last(self):
        self.assertEqual(refused(HEAD + "net a 0 0 0.0.0 9.9.9"), NoFit)
        self.assertEqual(refused(HEAD + "net a 0 0 0.0.0 9.9.9\nnet a 0 0 0.0.0 0.0.1"), Twice)

    def test_named_argument(self):
        self.assertEqual(spots_in((1, 1, 2)), read_board(page="floor 1 1 2\nlayer 1 1").floor.open_spots())
