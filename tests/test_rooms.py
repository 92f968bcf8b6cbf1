"""[2.3], [2.4], [2.5]: what a thing fits, where two things clash, what is held, free and barred."""

import random
import unittest

from tests.helpers import line, plain_floor, slow_clash, slow_fits, slow_free, spots_in
from wirefloor.rooms import barred_by, clash, fits, free_for, held
from wirefloor.things import Bundle, Net

FAR = 10 ** 17


def net(name="n", half=0, room=0, pins=None):
    return Net(name, [(0, 0, 0), (0, 0, 1)] if pins is None else pins, half, room)


def bundle(name="b", room=0):
    return Bundle(name, [(0, 0, 0)], [(0, 0, 1)], room)


class Fits(unittest.TestCase):
    def test_inside_a_bare_floor(self):
        floor = plain_floor((2, 5, 6))
        for layer in (0, 1):
            self.assertIs(fits(floor, net(half=0), (layer, 0, 0)), True)
            self.assertIs(fits(floor, net(half=0), (layer, 4, 5)), True)
            self.assertIs(fits(floor, net(half=1), (layer, 1, 1)), True)
            self.assertIs(fits(floor, net(half=2), (layer, 2, 3)), True)
            self.assertIs(fits(floor, bundle(), (layer, 0, 5)), True)

    def test_outside_on_every_side_and_layer(self):
        floor = plain_floor((2, 5, 6))
        outside = [(-1, 2, 2), (2, 2, 2), (0, -1, 2), (0, 5, 2), (0, 2, -1), (0, 2, 6), (1, 5, 6), (-1, -1, -1)]
        outside += [(FAR, 0, 0), (0, FAR, 0), (0, 0, FAR), (-FAR, 0, 0), (0, -FAR, 0), (0, 0, -FAR)]
        for thing in (net(half=0), net(half=1), net(half=2), bundle(room=3)):
            for spot in outside:
                self.assertIs(fits(floor, thing, spot), False, (thing.half, spot))

    def test_squares_cut_off_by_the_border(self):
        floor = plain_floor((1, 5, 6))
        for spot in ((0, 0, 2), (0, 4, 2), (0, 2, 0), (0, 2, 5)):
            self.assertTrue(fits(floor, net(half=0), spot))
            self.assertFalse(fits(floor, net(half=1), spot))
        for spot in ((0, 1, 2), (0, 3, 2), (0, 2, 1), (0, 2, 4)):
            self.assertTrue(fits(floor, net(half=1), spot))
            self.assertFalse(fits(floor, net(half=2), spot))
        self.assertFalse(fits(plain_floor((4, 1, 16)), net(half=1), (1, 0, 8)))

    def test_a_rock_at_the_halfs_distance_and_one_farther(self):
        for half in (0, 1, 2):
            for down, right in ((half, 0), (0, half), (half, half), (-half, half), (0, -half), (-half, -half)):
                floor = plain_floor((3, 9, 9), [(1, 4 + down, 4 + right)])
                self.assertFalse(fits(floor, net(half=half), (1, 4, 4)))
                self.assertTrue(fits(floor, net(half=half), (0, 4, 4)))
                self.assertTrue(fits(floor, net(half=half), (2, 4, 4)))
            for down, right in ((half + 1, 0), (0, half + 1), (-half - 1, 0), (half + 1, half + 1), (half, -half - 1)):
                floor = plain_floor((3, 9, 9), [(1, 4 + down, 4 + right)])
                self.assertTrue(fits(floor, net(half=half), (1, 4, 4)))

    def test_rooms_do_not_matter(self):
        floor = plain_floor((1, 5, 5), [(0, 0, 0)])
        self.assertTrue(fits(floor, net(room=3), (0, 0, 1)))
        self.assertTrue(fits(floor, bundle(room=3), (0, 1, 1)))

    def test_every_spot_by_the_words(self):
        chance = random.Random(1)
        for _ in range(12):
            sizes = (chance.randint(1, 3), chance.randint(1, 6), chance.randint(1, 6))
            rocks = [spot for spot in spots_in(sizes) if chance.random() < 0.1]
            floor = plain_floor(sizes, rocks)
            for half in (0, 1, 2):
                for spot in spots_in((sizes[0] + 2, sizes[1] + 2, sizes[2] + 2)):
                    moved = (spot[0] - 1, spot[1] - 1, spot[2] - 1)
                    self.assertEqual(fits(floor, net(half=half), moved), slow_fits(sizes, rocks, half, moved))


class Clash(unittest.TestCase):
    def told(self, thing, spot, other, place):
        told = clash(thing, spot, other, place)
        self.assertIsInstance(told, bool)
        self.assertEqual(clash(other, place, thing, spot), told)
        return told

    def test_just_the_sum_and_one_more(self):
        for half in (0, 1, 2):
            for room in (0, 1, 2, 3):
                for other_room in (0, 1, 2, 3):
                    for other in (net("o", 0, other_room), net("o", 1, other_room), net("o", 2, other_room),
                                  bundle("o", other_room)):
                        thing = net("n", half, room)
                        reach = half + other.half + max(room, other_room)
                        for down, right in ((reach, 0), (0, reach), (reach, reach), (-reach, 0), (0, -reach)):
                            self.assertTrue(self.told(thing, (1, 20, 20), other, (1, 20 + down, 20 + right)))
                        more = reach + 1
                        for down, right in ((more, 0), (0, more), (more, more), (-more, 0), (reach, -more)):
                            self.assertFalse(self.told(thing, (1, 20, 20), other, (1, 20 + down, 20 + right)))

    def test_unlike_layers(self):
        thing, other = net("n", 2, 3), net("o", 2, 3)
        self.assertTrue(self.told(thing, (1, 4, 4), other, (1, 4, 4)))
        for layer in (0, 2, 3, -1):
            self.assertFalse(self.told(thing, (1, 4, 4), other, (layer, 4, 4)))

    def test_two_bundles(self):
        self.assertTrue(self.told(bundle("a"), (0, 4, 4), bundle("b"), (0, 4, 4)))
        self.assertFalse(self.told(bundle("a"), (0, 4, 4), bundle("b"), (0, 4, 5)))
        self.assertTrue(self.told(bundle("a"), (0, 4, 4), bundle("b", 1), (0, 4, 5)))

    def test_far_beyond_a_floor(self):
        thing, other = net("n", 1, 2), net("o", 0, 1)
        self.assertTrue(self.told(thing, (FAR, FAR, -FAR), other, (FAR, FAR + 3, -FAR - 3)))
        self.assertFalse(self.told(thing, (FAR, FAR, -FAR), other, (FAR, FAR + 4, -FAR)))
        self.assertFalse(self.told(thing, (-FAR, FAR, FAR), other, (-FAR, -FAR, FAR)))
        self.assertFalse(self.told(thing, (FAR, 0, 0), other, (FAR - 1, 0, 0)))


class Held(unittest.TestCase):
    def test_not_laid(self):
        self.assertEqual(held(net(pins=[(1, 0, 0), (0, 5, 5), (0, 0, 9)]), None), [(0, 0, 9), (0, 5, 5), (1, 0, 0)])
        thing = Bundle("b", [(0, 3, 3)], [(0, 2, 2), (0, 1, 1)])
        self.assertEqual(held(thing, None), [(0, 1, 1), (0, 2, 2), (0, 3, 3)])

    def test_laid_by_no_steps(self):
        self.assertEqual(held(net(), []), [(0, 0, 0), (0, 0, 1)])

    def test_each_spot_once_and_in_order(self):
        thing = net(pins=[(0, 0, 4), (0, 0, 0)])
        wiring = list(reversed(line(0, 0, 4)))
        self.assertEqual(held(thing, wiring), [(0, 0, column) for column in range(5)])
        self.assertEqual(held(thing, wiring + wiring), [(0, 0, column) for column in range(5)])
        star = [((0, 1, 1), (0, 1, 2)), ((0, 1, 0), (0, 1, 1)), ((0, 1, 1), (0, 0, 1))]
        self.assertEqual(held(net(pins=[(0, 1, 0), (0, 1, 2), (0, 0, 1)]), star),
                         [(0, 0, 1), (0, 1, 0), (0, 1, 1), (0, 1, 2)])

    def test_goals_that_no_step_comes_to(self):
        thing = Bundle("b", [(0, 0, 0)], [(0, 0, 1), (3, 3, 3)])
        self.assertEqual(held(thing, line(0, 0, 1)), [(0, 0, 0), (0, 0, 1), (3, 3, 3)])

    def test_steps_anywhere(self):
        wiring = [((-1, -5, 3), (FAR, 0, 0)), ((0, 0, 1), (0, 0, 0))]
        self.assertEqual(held(net(), wiring), [(-1, -5, 3), (0, 0, 0), (0, 0, 1), (FAR, 0, 0)])

    def test_the_wiring_stays_and_what_is_told_is_the_askers(self):
        thing, wiring = net(pins=[(0, 0, 4), (0, 0, 0)]), line(0, 0, 4)
        held(thing, wiring).clear()
        held(thing, None).clear()
        self.assertEqual(wiring, line(0, 0, 4))
        self.assertEqual(held(thing, None), [(0, 0, 0), (0, 0, 4)])
        self.assertEqual(thing.ends(), [(0, 0, 4), (0, 0, 0)])


class Free(unittest.TestCase):
    def test_beside_none(self):
        floor = plain_floor((2, 3, 3), [(0, 1, 1), (1, 0, 0)])
        self.assertEqual(list(free_for(floor, net(), [])), floor.open_spots())
        self.assertEqual(set(free_for(floor, net(), []).values()), {True})
        self.assertEqual(free_for(floor, net(half=1), []), {})
        self.assertEqual(free_for(plain_floor((2, 3, 3), [(0, 0, 2)]), net(half=1), []), {(1, 1, 1): True})

    def test_beside_one(self):
        floor = plain_floor((2, 1, 8))
        told = free_for(floor, net(room=1), [(net("o", 0, 2), [(0, 0, 7), (1, 0, 0)])])
        self.assertEqual(list(told), [(0, 0, column) for column in range(5)] + [(1, 0, column) for column in range(3,
                                                                                                                   8)])

    def test_beside_spots_outside(self):
        floor = plain_floor((2, 4, 4))
        other = net("o", 1, 1)
        for place in ((0, 1, -3), (0, -3, 1), (0, 7, 7), (0, 2, FAR), (-1, 1, 1), (2, 1, 1), (-FAR, 0, 0), (5, 0, 0)):
            self.assertEqual(list(free_for(floor, net(), [(other, [place])])), spots_in((2, 4, 4)), place)
        told = free_for(floor, net(), [(other, [(1, -1, 1), (1, 2, 5)])])
        self.assertEqual(told, slow_free(floor, net(), [(other, [(1, -1, 1), (1, 2, 5)])]))
        self.assertNotIn((1, 1, 3), told)
        self.assertNotIn((1, 0, 3), told)
        self.assertIn((1, 2, 0), told)

    def test_an_other_that_holds_nothing(self):
        floor = plain_floor((1, 2, 2))
        self.assertEqual(list(free_for(floor, net(), [(net("o", 2, 3), [])])), spots_in((1, 2, 2)))

    def test_by_the_words(self):
        chance = random.Random(2)
        for _ in range(60):
            sizes = (chance.randint(1, 3), chance.randint(1, 8), chance.randint(1, 8))
            floor = plain_floor(sizes, [spot for spot in spots_in(sizes) if chance.random() < 0.06])
            thing = net("n", chance.randint(0, 2), chance.randint(0, 3))
            others = []
            for name in "abc"[:chance.randint(0, 3)]:
                other = chance.choice([bundle(name, chance.randint(0, 3)), net(name, chance.randint(0, 2), 1)])
                places = [tuple(chance.randint(-4, 10) for _ in range(3)) for _ in range(3)]
                others.append((other, places + [chance.choice(spots_in(sizes))]))
            told = free_for(floor, thing, others)
            self.assertEqual(list(told.items()), list(slow_free(floor, thing, others).items()))
            for spot in spots_in((sizes[0] + 1, sizes[1] + 1, sizes[2] + 1)):
                bars = barred_by(floor, thing, others, spot)
                names = [other.name for other, spots in others if any(
                    slow_clash(thing, spot, other, place) for place in spots)]
                fit = slow_fits(sizes, floor.rocks_told(), thing.half, spot)
                self.assertEqual(bars, ([] if fit else ["#"]) + names)
                self.assertEqual(bars == [], spot in told)

    def test_the_greatest_floor(self):
        floor = plain_floor((4, 16, 16))
        told = free_for(floor, net(half=2, room=3), [(net("o", 2, 3), [(3, 15, 15)])])
        self.assertEqual(len(told), 4 * 144 - 36)
        self.assertEqual(list(told), sorted(told))

    def test_what_is_handed_in_stays(self):
        floor = plain_floor((1, 3, 3))
        spots = [(0, 2, 2), (0, 0, 0)]
        others = [(net("o"), spots)]
        told = free_for(floor, net(), others)
        barred_by(floor, net(), others, (0, 0, 0))
        self.assertEqual(spots, [(0, 2, 2), (0, 0, 0)])
        self.assertEqual(len(others), 1)
        told.clear()
        self.assertEqual(len(free_for(floor, net(), others)), 7)


class Barred(unittest.TestCase):
    def setUp(self):
        self.floor = plain_floor((2, 6, 6), [(0, 3, 3)])
        self.others = [(net("z", 0, 1), [(0, 1, 1)]), (net("a", 0, 0), [(0, 1, 2), (0, 9, 9)]), (bundle("m"), [])]

    def test_free(self):
        self.assertEqual(barred_by(self.floor, net(), self.others, (0, 5, 5)), [])
        self.assertEqual(barred_by(self.floor, net(), self.others, (1, 1, 1)), [])

    def test_names_in_the_order_of_others(self):
        self.assertEqual(barred_by(self.floor, net(), self.others, (0, 1, 2)), ["z", "a"])
        self.assertEqual(barred_by(self.floor, net(), self.others[::-1], (0, 1, 2)), ["a", "z"])
        self.assertEqual(barred_by(self.floor, net(), self.others, (0, 1, 1)), ["z"])

    def test_each_name_once(self):
        others = [(net("z", 0, 3), [(0, 1, 1), (0, 1, 2), (0, 1, 3)])]
        self.assertEqual(barred_by(self.floor, net(), others, (0, 1, 2)), ["z"])

    def test_no_fit_goes_first(self):
        self.assertEqual(barred_by(self.floor, net(), self.others, (0, 3, 3)), ["#"])
        self.assertEqual(barred_by(self.floor, net(half=2), self.others, (0, 1, 2)), ["#", "z", "a"])

    def test_outside(self):
        self.assertEqual(barred_by(self.floor, net(), self.others, (0, 9, 9)), ["#", "a"])
        self.assertEqual(barred_by(self.floor, net(), self.others, (-1, 0, 0)), ["#"])
        self.assertEqual(barred_by(self.floor, net(room=3), self.others, (0, -2, 1)), ["#", "z", "a"])
        self.assertEqual(barred_by(self.floor, net(), [], (FAR, -FAR, 0)), ["#"])

    def test_named_arguments(self):
        floor, thing, others = self.floor, net(), self.others
        self.assertEqual(barred_by(floor=floor, thing=thing, others=others, spot=(0, 3, 3)), ["#"])
        self.assertEqual(len(free_for(floor=floor, thing=thing, others=[])), 71)
        self.assertTrue(fits(floor=floor, thing=thing, spot=(0, 0, 0)))
        self.assertTrue(clash(thing=thing, spot=(0, 0, 0), other=net("o"), place=(0, 0, 0)))
        self.assertEqual(held(thing=thing, wiring=None), [(0, 0, 0), (0, 0, 1)])
