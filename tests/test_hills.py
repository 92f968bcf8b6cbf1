"""[5.4]: the hill round a part between two marks of time."""

import random
import unittest

from wirefloor.hills import hill_round, least_far
from wirefloor.ways import height

A, B, C, D, E = [(0, 0, column) for column in range(5)]


class Hills(unittest.TestCase):
    def test_from_nought_on(self):
        hill = hill_round({A: 0, B: 3, C: 5, D: 9}, 0, 10)
        self.assertEqual(hill, (10, {A: 0, B: 6}))
        self.assertIsInstance(hill, tuple)

    def test_spots_just_at_the_top(self):
        self.assertEqual(hill_round({A: 4, B: 5, C: 6}, 0, 10), (10, {A: 8}))
        self.assertEqual(hill_round({A: 4, B: 5, C: 6}, 0, 11), (11, {A: 8, B: 10}))
        self.assertEqual(hill_round({A: 4}, 0, 8), (8, {}))
        self.assertEqual(hill_round({A: 4}, 0, 9), (9, {A: 8}))

    def test_born_later(self):
        self.assertEqual(hill_round({A: 0, B: 3, C: 4, D: 5, E: 6}, 7, 11), (4, {A: 0, B: 0, C: 1, D: 3}))

    def test_born_and_died_the_same(self):
        for time in (0, 1, 7):
            self.assertEqual(hill_round({A: 0, B: 3, C: 4}, time, time), (0, {}))

    def test_no_spots(self):
        self.assertEqual(hill_round({}, 2, 9), (7, {}))

    def test_great_prices(self):
        far = {A: 10 ** 15, B: 10 ** 15 + 1}
        self.assertEqual(hill_round(far, 2 * 10 ** 15 - 1, 2 * 10 ** 15 + 3), (4, {A: 1, B: 3}))

    def test_by_the_words(self):
        chance = random.Random(15)
        for _ in range(200):
            far = dict((spot, chance.randint(0, 9)) for spot in (A, B, C, D) if chance.random() < 0.8)
            kept = dict(far)
            born = chance.randint(0, 12)
            died = born + chance.randint(0, 9)
            hill = hill_round(far=far, born=born, died=died)
            self.assertEqual(far, kept)
            self.assertEqual(hill[0], died - born)
            for spot in (A, B, C, D, E):
                want = died if spot not in far else min(max(2 * far[spot], born), died)
                self.assertEqual(height(hill, spot), want - born)
            self.assertTrue(all(high < hill[0] for high in hill[1].values()))


class Least(unittest.TestCase):
    def test_none(self):
        self.assertEqual(least_far([]), {})
        self.assertEqual(least_far([{}, {}]), {})

    def test_one(self):
        far = {A: 3, B: 0}
        told = least_far([far])
        self.assertEqual(told, {A: 3, B: 0})
        told[A] = 9
        self.assertEqual(far, {A: 3, B: 0})

    def test_several_with_one_spot(self):
        fars = [{A: 3, B: 5, C: 0}, {A: 2, B: 7, D: 4}, {B: 6}]
        self.assertEqual(least_far(fars=fars), {A: 2, B: 5, C: 0, D: 4})
        self.assertEqual(least_far(fars[::-1]), {A: 2, B: 5, C: 0, D: 4})
        self.assertEqual(fars, [{A: 3, B: 5, C: 0}, {A: 2, B: 7, D: 4}, {B: 6}])
