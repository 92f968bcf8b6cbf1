"""[2.7]: the faults of a layout in their order, when it is legal, its price; and what others hold."""

import random
import unittest

from tests.helpers import line, plain_floor, slow_clash, slow_fits
from wirefloor.board import Board
from wirefloor.legal import faults, layout_price, legal, others_of
from wirefloor.things import Bundle, Net


def net(name, row, half=0, room=0, layer=0, first=2, last=6):
    return Net(name, [(layer, row, first), (layer, row, last)], half, room)


def slow_faults(board, layout):
    """By the words of 2.7, but for soundness."""
    told = []
    for name in sorted(layout):
        if name not in [thing.name for thing in board.things()]:
            told.append(("stranger", name))
    holds = []
    for thing in board.things():
        wiring = layout.get(thing.name, [])
        holds.append(set(thing.ends()) | {spot for step in wiring for spot in step})
        if thing.name in layout:
            rocks = board.floor.rocks_told()
            if not thing.sound(board.floor, wiring):
                told.append(("shape", thing.name))
            elif not all(slow_fits(board.floor.sizes, rocks, thing.half, spot) for spot in holds[-1]):
                told.append(("rock", thing.name))
    things = board.things()
    for one in range(len(things)):
        for two in range(one + 1, len(things)):
            if any(slow_clash(things[one], spot, things[two], place) for spot in holds[one] for place in holds[two]):
                told.append(("near", things[one].name, things[two].name))
    return told


class Faults(unittest.TestCase):
    def setUp(self):
        self.floor = plain_floor((2, 9, 9), [(0, 4, 4)], {(0, 1, 3): 7, (0, 1, 6): 1000})
        self.things = [net("m", 1), net("b", 6, 1), Bundle("k", [(1, 0, 0)], [(1, 0, 3), (1, 8, 8)], 1), net("a", 3)]
        self.board = Board(self.floor, self.things)
        self.good = {"a": line(3, 2, 6), "m": line(1, 2, 6), "k": line(0, 0, 3, 1), "b": line(6, 2, 6)}

    def told(self, layout):
        told = faults(self.board, layout)
        self.assertIsInstance(told, list)
        self.assertEqual(told, slow_faults(self.board, layout))
        self.assertIs(legal(self.board, layout), told == [])
        return told

    def without(self, *names):
        return dict((name, self.good[name]) for name in self.good if name not in names)

    def test_nothing_laid(self):
        self.assertEqual(self.told({}), [])

    def test_all_laid(self):
        self.assertEqual(self.told(self.good), [])
        self.assertEqual(self.told(self.without("m", "k")), [])

    def test_strangers_in_the_order_of_texts(self):
        layout = dict(self.good, zz=[], c=line(8, 0, 1), B=[], aa=line(3, 2, 6))
        self.assertEqual(self.told(layout), [("stranger", name) for name in ("B", "aa", "c", "zz")])

    def test_shape(self):
        self.assertEqual(self.told(dict(self.good, m=[])), [("shape", "m")])
        self.assertEqual(self.told(dict(self.good, m=line(1, 2, 5))), [("shape", "m")])
        self.assertEqual(self.told(dict(self.good, k=[])), [("shape", "k")])
        self.assertEqual(self.told(dict(self.good, k=line(0, 0, 2, 1))), [("shape", "k")])
        self.assertEqual(self.told(dict(self.good, m=line(1, 2, 6) * 2)), [("shape", "m")])
        self.assertEqual(self.told(dict(self.good, a=[], m=[], k=[])), [("shape", "m"), ("shape", "k"), ("shape", "a")])

    def test_rock(self):
        # Sound, for a step is only barred where a rock is one of its ends; yet its copper reaches the rock.
        up = [((0, 6, 4), (0, 5, 4)), ((0, 5, 4), (0, 5, 5)), ((0, 5, 5), (0, 6, 5))]
        around = line(6, 2, 4) + up + line(6, 5, 6)
        self.assertTrue(self.things[1].sound(self.floor, around))
        self.assertEqual(self.told({"b": around}), [("rock", "b")])

    def test_rock_by_the_border(self):
        edge = [((0, 6, 2), (0, 7, 2)), ((0, 7, 2), (0, 8, 2)), ((0, 8, 2), (0, 8, 3)), ((0, 8, 3), (0, 7, 3))]
        wiring = edge + [((0, 7, 3), (0, 6, 3))] + line(6, 3, 6)
        self.assertEqual(self.told({"b": wiring}), [("rock", "b")])

    def test_shape_goes_ahead_of_rock(self):
        self.assertEqual(self.told({"b": line(8, 0, 3)}), [("shape", "b")])

    def test_near(self):
        down = [((0, 1, 2), (0, 2, 2)), ((0, 2, 2), (0, 3, 2)), ((0, 3, 2), (0, 3, 1)), ((0, 3, 1), (0, 2, 1))]
        layout = {"m": down[:2] + line(3, 2, 6) + [((0, 3, 6), (0, 2, 6)), ((0, 2, 6), (0, 1, 6))]}
        self.assertEqual(self.told(layout), [("near", "m", "a")])
        self.assertEqual(self.told(dict(layout, a=line(3, 2, 6))), [("near", "m", "a")])

    def test_near_the_ends_of_one_that_is_not_laid(self):
        across = [((0, row, 2), (0, row + 1, 2)) for row in (1, 2)]
        self.assertEqual(self.told({"a": across}), [("shape", "a"), ("near", "m", "a")])

    def test_near_where_the_wiring_is_not_sound(self):
        self.assertEqual(self.told({"a": line(6, 0, 1)}), [("shape", "a"), ("near", "b", "a")])
        self.assertEqual(self.told({"a": [((0, 6, 1), (0, 1, 7))], "m": [((0, 1, 7), (0, 5, 7))]}),
                         [("shape", "m"), ("shape", "a"), ("near", "m", "b"), ("near", "m", "a"), ("near", "b", "a")])

    def test_near_outside_the_floor(self):
        layout = {"a": [((0, 99, 99), (0, 99, 98))], "m": [((0, 99, 97), (0, 99, 98))]}
        self.assertEqual(self.told(layout), [("shape", "m"), ("shape", "a"), ("near", "m", "a")])
        layout["m"] = [((7, 99, 97), (7, 99, 98))]
        self.assertEqual(self.told(layout), [("shape", "m"), ("shape", "a")])

    def test_all_at_once(self):
        edge = [((0, 6, 2), (0, 7, 2)), ((0, 7, 2), (0, 8, 2)), ((0, 8, 2), (0, 8, 3)), ((0, 8, 3), (0, 7, 3))]
        layout = {"zz": [], "k": line(0, 0, 3), "a": line(6, 0, 1),
                  "b": edge + [((0, 7, 3), (0, 6, 3))] + line(6, 3, 6)}
        layout["aa"] = line(1, 2, 6)
        self.assertEqual(self.told(layout), [("stranger", "aa"), ("stranger", "zz"), ("rock", "b"), ("shape", "k"),
                                             ("shape", "a"), ("near", "m", "k"), ("near", "b", "a")])

    def test_strangers_are_near_to_nobody(self):
        self.assertEqual(self.told({"zz": line(1, 2, 6)}), [("stranger", "zz")])

    def test_by_the_words(self):
        chance = random.Random(3)
        steps = [(one, two) for one in self.floor.open_spots() for two, _ in self.floor.steps(one)]
        for _ in range(60):
            layout = {}
            for name in ("m", "b", "k", "a", "x"):
                if chance.random() < 0.7:
                    layout[name] = list(self.good.get(name, []))
                    if chance.random() < 0.5:
                        layout[name] = layout[name] + chance.sample(steps, chance.randint(0, 2))
            self.told(layout)

    def test_the_layout_stays(self):
        layout = {"a": list(reversed(line(3, 2, 6))), "zz": [], "m": line(1, 2, 5)}
        kept = dict((name, list(wiring)) for name, wiring in layout.items())
        faults(self.board, layout)
        legal(self.board, layout)
        others_of(self.board, layout, "a")
        self.assertEqual(layout, kept)
        self.assertEqual(list(layout), ["a", "zz", "m"])

    def test_price(self):
        self.assertEqual(layout_price(self.board, {}), 0)
        self.assertEqual(layout_price(self.board, {"a": line(3, 2, 6)}), 40)
        self.assertEqual(layout_price(self.board, {"m": line(1, 2, 6)}), 40 + 14 + 1000)
        self.assertEqual(layout_price(self.board, self.good), 40 + 40 + 1014 + 40 + 330)
        turned = [(two, one) for one, two in line(3, 2, 6)]
        self.assertEqual(layout_price(self.board, {"a": turned}), 40)

    def test_named_arguments(self):
        self.assertEqual(faults(board=self.board, layout={}), [])
        self.assertTrue(legal(board=self.board, layout={}))
        self.assertEqual(layout_price(board=self.board, layout={}), 0)
        self.assertEqual(len(others_of(board=self.board, layout={}, name="a")), 3)


class Others(unittest.TestCase):
    def setUp(self):
        self.things = [net("m", 1), net("b", 6), net("a", 3)]
        self.board = Board(plain_floor((1, 9, 9)), self.things)

    def test_in_the_boards_order_with_what_they_hold(self):
        told = others_of(self.board, {"b": line(6, 2, 6), "a": line(3, 2, 6)}, "a")
        self.assertEqual(told, [(self.things[0], [(0, 1, 2), (0, 1, 6)]),
                                (self.things[1], [(0, 6, column) for column in range(2, 7)])])
        self.assertIsInstance(told[0], tuple)

    def test_the_first_and_the_one_between(self):
        self.assertEqual([thing.name for thing, _ in others_of(self.board, {}, "m")], ["b", "a"])
        self.assertEqual([thing.name for thing, _ in others_of(self.board, {}, "b")], ["m", "a"])

    def test_a_name_that_nobody_has(self):
        told = others_of(self.board, {"q": line(8, 0, 3), "m": [((9, 9, 9), (0, 0, 0))]}, "q")
        self.assertEqual([thing.name for thing, _ in told], ["m", "b", "a"])
        self.assertEqual(told[0][1], [(0, 0, 0), (0, 1, 2), (0, 1, 6), (9, 9, 9)])
        self.assertEqual(told[1][1], [(0, 6, 2), (0, 6, 6)])

    def test_what_is_told_is_the_askers(self):
        layout = {"b": line(6, 2, 6)}
        told = others_of(self.board, layout, "a")
        told[1][1].clear()
        told.clear()
        self.assertEqual(layout, {"b": line(6, 2, 6)})
        self.assertEqual(len(others_of(self.board, layout, "a")[1][1]), 5)
