"""[4.3], [4.4]: hills, heights and climbs; the cheapest way and its hill, or the shore."""

import random
import unittest

from tests.helpers import MOST, free_of, plain_floor, random_floor, slow_far_over, spots_in, steps_over
from wirefloor.floor import Floor
from wirefloor.ways import arcs_in, cheapest, climbed, height


class Arcs(unittest.TestCase):
    def test_steps_to_free_spots_in_order(self):
        floor = plain_floor((2, 3, 3), [(0, 1, 2)], {(0, 0, 1): 5})
        arcs = arcs_in(floor, free_of(spots_in((2, 3, 3))))
        self.assertEqual(arcs((0, 1, 1)), [((0, 0, 1), 18), ((0, 1, 0), 10), ((0, 2, 1), 13), ((1, 1, 1), 1007)])
        self.assertIsInstance(arcs((0, 1, 1)), list)

    def test_spots_that_are_shut(self):
        floor = plain_floor((1, 3, 3), [(0, 1, 2)])
        arcs = arcs_in(floor, free_of([(0, 1, 2), (0, 1, 1), (0, 0, 1), (0, 0, 0)]))
        self.assertEqual(arcs((0, 1, 1)), [((0, 0, 1), 13)])
        self.assertEqual(arcs((0, 1, 2)), [])
        self.assertEqual(arcs((0, 2, 1)), [])
        self.assertEqual(arcs((0, 2, 2)), [])

    def test_free_spots_in_any_order(self):
        chance = random.Random(10)
        for _ in range(30):
            floor = random_floor(chance, (2, 4, 4), 0.2, 0.3)
            spots = [spot for spot in spots_in((2, 4, 4)) if chance.random() < 0.7]
            chance.shuffle(spots)
            arcs = arcs_in(floor, free_of(spots))
            for spot in spots_in((2, 4, 4)):
                want = [pair for pair in floor.steps(spot) if pair[0] in spots] if spot in spots else []
                self.assertEqual(arcs(spot), want)

    def test_the_dict_changed_behind(self):
        floor = plain_floor((1, 1, 4))
        free = free_of([(0, 0, 1), (0, 0, 0)])
        arcs = arcs_in(floor=floor, free=free)
        free[(0, 0, 2)] = True
        free.pop((0, 0, 0))
        self.assertEqual(arcs((0, 0, 1)), [((0, 0, 0), 10)])
        self.assertEqual(arcs((0, 0, 0)), [((0, 0, 1), 10)])
        self.assertEqual(arcs((0, 0, 2)), [])

    def test_what_is_told_is_the_askers(self):
        free = free_of(spots_in((1, 1, 3)))
        arcs = arcs_in(plain_floor((1, 1, 3)), free)
        arcs((0, 0, 1)).clear()
        self.assertEqual(len(arcs((0, 0, 1))), 2)
        self.assertEqual(free, free_of(spots_in((1, 1, 3))))


class Hills(unittest.TestCase):
    def test_height(self):
        hill = (9, {(0, 0, 0): 0, (0, 0, 1): 8})
        self.assertEqual(height(hill, (0, 0, 0)), 0)
        self.assertEqual(height(hill, (0, 0, 1)), 8)
        self.assertEqual(height(hill, (0, 0, 2)), 9)
        self.assertEqual(height(hill=(0, {}), spot=(5, 5, 5)), 0)

    def test_climbed(self):
        one, two = (0, 0, 0), (0, 0, 1)
        up, down = (9, {one: 2}), (5, {two: 1, one: 4})
        self.assertEqual(climbed([], one, two), 0)
        self.assertEqual(climbed([up], one, two), 7)
        self.assertEqual(climbed([up], two, one), 7)
        self.assertEqual(climbed([down], one, two), 3)
        self.assertEqual(climbed([up, down, up], one, two), 17)
        self.assertEqual(climbed([up, down], two, one), 10)
        self.assertEqual(climbed(hills=[up], one=one, two=one), 0)
        self.assertEqual(climbed([up, down], (1, 1, 1), (2, 2, 2)), 0)


class Cheapest(unittest.TestCase):
    def told(self, floor, free, starts, goals):
        kept = (list(free.items()), list(starts), list(goals))
        told = cheapest(floor, free, starts, goals)
        self.assertEqual((list(free.items()), list(starts), list(goals)), kept)
        self.assertIsInstance(told, tuple)
        far = slow_far_over(floor, free, starts)
        prices = [far[goal] for goal in goals if goal in far]
        if prices == []:
            self.assertEqual(told, ("shore", sorted(far)))
            return told
        kind, way, hill = told
        self.assertEqual(kind, "way")
        self.check_way(floor, free, starts, goals, way)
        self.assertEqual(floor.way_price(way), min(prices))
        self.check_hill(floor, free, starts, goals, hill, min(prices))
        return told

    def check_way(self, floor, free, starts, goals, way):
        self.assertIn(way[0], starts)
        self.assertIn(way[-1], goals)
        self.assertEqual(len(set(way)), len(way))
        for spot in way:
            self.assertIn(spot, free)
        for one, two in zip(way, way[1:]):
            self.assertIn(two, [spot for spot, _ in floor.steps(one)])

    def check_hill(self, floor, free, starts, goals, hill, price):
        top, heights = hill
        self.assertIsInstance(hill, tuple)
        self.assertEqual(top, price)
        for spot, high in heights.items():
            self.assertIn(spot, free)
            self.assertTrue(0 <= high < top)
        self.assertEqual({height(hill, start) for start in starts}, {0})
        self.assertEqual({height(hill, goal) for goal in goals}, {top})
        for one, two, price in steps_over(floor, free):
            self.assertLessEqual(climbed([hill], one, two), price)

    def test_along_a_row(self):
        floor = plain_floor((1, 1, 5))
        told = self.told(floor, free_of(spots_in((1, 1, 5))), [(0, 0, 1)], [(0, 0, 3)])
        self.assertEqual(told[1], [(0, 0, 1), (0, 0, 2), (0, 0, 3)])
        self.assertEqual(told[2][0], 20)

    def test_round_what_is_shut(self):
        floor = plain_floor((1, 3, 3), [(0, 0, 1)])
        told = self.told(floor, free_of(spots_in((1, 3, 3))), [(0, 0, 0)], [(0, 0, 2)])
        self.assertEqual(told[1], [(0, 0, 0), (0, 1, 0), (0, 1, 1), (0, 1, 2), (0, 0, 2)])
        spots = [spot for spot in spots_in((1, 3, 3)) if spot != (0, 1, 1)]
        told = self.told(floor, free_of(spots), [(0, 0, 0)], [(0, 0, 2)])
        self.assertEqual(len(told[1]), 7)

    def test_by_the_cheaper_layer(self):
        floor = Floor((2, 1, 5), [(100, 1), (1, 1)], [10])
        told = self.told(floor, free_of(spots_in((2, 1, 5))), [(0, 0, 0)], [(0, 0, 4)])
        self.assertEqual(told[2][0], 24)

    def test_round_a_toll(self):
        floor = Floor((1, 2, 3), [(1, 1)], [], [], {(0, 0, 1): 2})
        told = self.told(floor, free_of(spots_in((1, 2, 3))), [(0, 0, 0)], [(0, 0, 2)])
        self.assertEqual(told[1], [(0, 0, 0), (0, 1, 0), (0, 1, 1), (0, 1, 2), (0, 0, 2)])

    def test_the_shore(self):
        floor = plain_floor((1, 3, 3), [(0, 1, 0), (0, 1, 1)])
        spots = [spot for spot in spots_in((1, 3, 3)) if spot != (0, 1, 2)]
        told = self.told(floor, free_of(reversed(spots)), [(0, 0, 1)], [(0, 2, 2), (0, 2, 0)])
        self.assertEqual(told, ("shore", [(0, 0, 0), (0, 0, 1), (0, 0, 2)]))
        told = self.told(floor, free_of([(0, 0, 0), (0, 2, 2)]), [(0, 0, 0), (0, 0, 0)], [(0, 2, 2)])
        self.assertEqual(told, ("shore", [(0, 0, 0)]))

    def test_starts_and_goals_alike(self):
        floor = plain_floor((1, 1, 5))
        free = free_of(spots_in((1, 1, 5)))
        told = self.told(floor, free, [(0, 0, 1), (0, 0, 3)], [(0, 0, 0), (0, 0, 3)])
        self.assertEqual(told, ("way", [(0, 0, 3)], (0, {})))
        self.assertEqual(self.told(floor, free, [(0, 0, 2)], [(0, 0, 2)])[1], [(0, 0, 2)])

    def test_told_twice(self):
        floor = plain_floor((1, 1, 5))
        free = free_of(spots_in((1, 1, 5)))
        told = self.told(floor, free, [(0, 0, 1)] * 3, [(0, 0, 4), (0, 0, 2), (0, 0, 4)])
        self.assertEqual(told[1], [(0, 0, 1), (0, 0, 2)])

    def test_great_prices(self):
        floor = Floor((2, 3, 3), [(MOST, MOST - 1), (1, MOST)], [MOST], [],
                      dict((spot, MOST) for spot in spots_in((2, 3, 3))))
        self.told(floor, free_of(spots_in((2, 3, 3))), [(0, 0, 0)], [(0, 2, 2)])

    def test_the_greatest_floor(self):
        floor = plain_floor((4, 16, 16))
        told = self.told(floor, free_of(spots_in((4, 16, 16))), [(0, 0, 0)], [(3, 15, 15)])
        self.assertEqual(len(told[1]), 34)

    def test_by_a_slow_search(self):
        chance = random.Random(11)
        for _ in range(150):
            sizes = (chance.randint(1, 3), chance.randint(1, 4), chance.randint(2, 5))
            floor = random_floor(chance, sizes, 0.25, 0.3, chance.choice([1, 3, 20]))
            spots = [spot for spot in spots_in(sizes) if chance.random() < 0.85]
            chance.shuffle(spots)
            clear = [spot for spot in spots if not floor.is_rock(spot)]
            if clear:
                starts = [chance.choice(clear) for _ in range(chance.randint(1, 3))]
                goals = [chance.choice(clear) for _ in range(chance.randint(1, 3))]
                self.told(floor, free_of(spots), starts, goals)

    def test_named_arguments_and_the_same_each_time(self):
        floor = plain_floor((1, 3, 3))
        free = free_of(spots_in((1, 3, 3)))
        told = cheapest(floor=floor, free=free, starts=[(0, 0, 0)], goals=[(0, 2, 2)])
        self.assertEqual(told, cheapest(floor, free, [(0, 0, 0)], [(0, 2, 2)]))
        told[1].clear()
        told[2][1].clear()
        self.assertEqual(len(cheapest(floor, free, [(0, 0, 0)], [(0, 2, 2)])[1]), 5)
