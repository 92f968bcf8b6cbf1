"""[4.1]: the heap."""

import random
import unittest

from wirefloor.errors import NothingLeft
from wirefloor.heap import Heap


def filled(pairs):
    heap = Heap()
    for price, mark in pairs:
        heap.add(price, mark)
    return heap


def emptied(heap):
    told = []
    while heap.many() > 0:
        told.append(heap.take())
    return told


class Heaps(unittest.TestCase):
    def test_empty(self):
        heap = Heap()
        self.assertEqual(heap.many(), 0)
        for _ in range(2):
            with self.assertRaises(NothingLeft):
                heap.take()
        self.assertEqual(heap.many(), 0)

    def test_by_price_and_then_by_mark(self):
        pairs = [(5, 1), (3, 9), (3, 2), (7, 0), (3, 5), (5, 0)]
        self.assertEqual(emptied(filled(pairs)), sorted(pairs))

    def test_a_tuple_is_told(self):
        told = filled([(5, 1)]).take()
        self.assertEqual(told, (5, 1))
        self.assertIsInstance(told, tuple)

    def test_equal_pairs(self):
        pairs = [(2, 2)] * 5 + [(1, 1)] * 3
        self.assertEqual(emptied(filled(pairs)), sorted(pairs))

    def test_marks_that_are_tuples(self):
        pairs = [(1, (0, 0, 2)), (1, (0, 0, 1)), (0, (3, 3, 3)), (1, (0, 0, 1)), (1, (-1, 9, 9))]
        self.assertEqual(emptied(filled(pairs)), sorted(pairs))

    def test_prices_below_nought_and_great_ones(self):
        pairs = [(0, 0), (-5, 1), (10 ** 18, -3), (-10 ** 18, 4), (-5, -1)]
        self.assertEqual(emptied(filled(pairs)), sorted(pairs))

    def test_taking_and_adding_again(self):
        heap = filled([(1, 1)])
        self.assertEqual(heap.take(), (1, 1))
        with self.assertRaises(NothingLeft):
            heap.take()
        heap.add(4, 4)
        heap.add(2, 2)
        self.assertEqual(heap.many(), 2)
        self.assertEqual(heap.take(), (2, 2))
        heap.add(3, 3)
        self.assertEqual(emptied(heap), [(3, 3), (4, 4)])

    def test_two_side_by_side(self):
        one, two = Heap(), Heap()
        one.add(1, 1)
        self.assertEqual((one.many(), two.many()), (1, 0))
        two.add(0, 0)
        self.assertEqual(one.take(), (1, 1))
        self.assertEqual(two.take(), (0, 0))

    def test_many_runs_beside_a_sorted_list(self):
        chance = random.Random(8)
        for _ in range(200):
            heap, kept = Heap(), []
            for _ in range(chance.randint(1, 60)):
                if kept and chance.random() < 0.4:
                    kept = sorted(kept)
                    self.assertEqual(heap.take(), kept.pop(0))
                else:
                    pair = (chance.randint(-3, 3), chance.randint(-3, 3))
                    kept.append(pair)
                    heap.add(price=pair[0], mark=pair[1])
                self.assertEqual(heap.many(), len(kept))
            self.assertEqual(emptied(heap), sorted(kept))
