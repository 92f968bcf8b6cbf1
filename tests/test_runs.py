"""Of [3.3] and [3.6]: boxes and runs."""

import itertools
import random
import unittest

from wirefloor.runs import box, runs

FAR = 10 ** 17


def slow_box(one, two):
    ranges = [range(min(pair), max(pair) + 1) for pair in zip(one, two)]
    return list(itertools.product(*ranges))


def beside(spot, right):
    return (spot[0], spot[1], spot[2] + right)


def slow_runs(marks):
    """Each stretch of alike marks that is longer at neither end."""
    told = []
    for first in marks:
        if beside(first, -1) in marks and marks[beside(first, -1)] == marks[first]:
            continue
        last = first
        while beside(last, 1) in marks and marks[beside(last, 1)] == marks[first]:
            last = beside(last, 1)
        told.append((first, last, marks[first]))
    return sorted(told)


class Boxes(unittest.TestCase):
    def test_one_spot(self):
        self.assertEqual(box((1, 2, 3), (1, 2, 3)), [(1, 2, 3)])

    def test_a_line_each_way(self):
        self.assertEqual(box((1, 2, 3), (1, 2, 5)), [(1, 2, 3), (1, 2, 4), (1, 2, 5)])
        self.assertEqual(box((1, 2, 3), (1, 4, 3)), [(1, 2, 3), (1, 3, 3), (1, 4, 3)])
        self.assertEqual(box((1, 2, 3), (3, 2, 3)), [(1, 2, 3), (2, 2, 3), (3, 2, 3)])

    def test_any_two_corners(self):
        want = slow_box((0, 1, 2), (2, 4, 3))
        self.assertEqual(len(want), 24)
        for layers in ((0, 2), (2, 0)):
            for rows in ((1, 4), (4, 1)):
                for columns in ((2, 3), (3, 2)):
                    one, two = zip(layers, rows, columns)
                    self.assertEqual(box(one, two), want)

    def test_many(self):
        chance = random.Random(5)
        for _ in range(100):
            one = tuple(chance.randint(0, 4) for _ in range(3))
            two = tuple(chance.randint(0, 4) for _ in range(3))
            self.assertEqual(box(one, two), slow_box(one, two))

    def test_far_out(self):
        self.assertEqual(box((FAR, FAR + 1, FAR), (FAR, FAR, FAR + 1)),
                         [(FAR, FAR, FAR), (FAR, FAR, FAR + 1), (FAR, FAR + 1, FAR), (FAR, FAR + 1, FAR + 1)])
        self.assertEqual(box((-1, 0, 0), (0, 0, 0)), [(-1, 0, 0), (0, 0, 0)])

    def test_named_arguments(self):
        self.assertEqual(box(one=(0, 0, 1), two=(0, 0, 0)), [(0, 0, 0), (0, 0, 1)])


class Runs(unittest.TestCase):
    def told(self, marks):
        kept = list(marks.items())
        told = runs(marks)
        self.assertEqual(list(marks.items()), kept)
        self.assertEqual(told, slow_runs(marks))
        self.assertTrue(all(isinstance(run, tuple) for run in told))
        return told

    def test_none(self):
        self.assertEqual(self.told({}), [])

    def test_single_spots(self):
        self.assertEqual(self.told({(0, 0, 0): True}), [((0, 0, 0), (0, 0, 0), True)])
        self.assertEqual(self.told({(0, 0, 2): 5, (0, 0, 0): 5}),
                         [((0, 0, 0), (0, 0, 0), 5), ((0, 0, 2), (0, 0, 2), 5)])

    def test_ended_by_an_unmarked_spot(self):
        marks = dict(((0, 0, column), True) for column in (5, 4, 1, 2, 0))
        self.assertEqual(self.told(marks), [((0, 0, 0), (0, 0, 2), True), ((0, 0, 4), (0, 0, 5), True)])

    def test_ended_by_another_mark(self):
        marks = {(0, 0, 0): 1, (0, 0, 1): 1, (0, 0, 2): 2, (0, 0, 3): 1, (0, 0, 4): 0, (0, 0, 5): 0}
        self.assertEqual(self.told(marks), [((0, 0, 0), (0, 0, 1), 1), ((0, 0, 2), (0, 0, 2), 2),
                                            ((0, 0, 3), (0, 0, 3), 1), ((0, 0, 4), (0, 0, 5), 0)])

    def test_ended_by_a_rows_end(self):
        marks = {(0, 0, 14): True, (0, 0, 15): True, (0, 1, 0): True, (0, 1, 16): True, (0, 1, 1): True}
        self.assertEqual(self.told(marks), [((0, 0, 14), (0, 0, 15), True), ((0, 1, 0), (0, 1, 1), True),
                                            ((0, 1, 16), (0, 1, 16), True)])

    def test_ended_by_a_layers_end(self):
        marks = {(0, 15, 15): 3, (1, 0, 0): 3, (1, 15, 16): 3, (2, 15, 17): 3}
        self.assertEqual([run[0] for run in self.told(marks)], [(0, 15, 15), (1, 0, 0), (1, 15, 16), (2, 15, 17)])

    def test_rows_are_not_joined(self):
        marks = {(0, 0, 3): True, (0, 1, 3): True, (0, 1, 4): True, (1, 1, 5): True}
        self.assertEqual(len(self.told(marks)), 3)

    def test_far_out(self):
        marks = {(FAR, FAR, FAR): FAR, (FAR, FAR, FAR + 1): FAR, (FAR, FAR, FAR + 2): FAR + 1}
        self.assertEqual(self.told(marks), [((FAR, FAR, FAR), (FAR, FAR, FAR + 1), FAR),
                                            ((FAR, FAR, FAR + 2), (FAR, FAR, FAR + 2), FAR + 1)])

    def test_many_in_any_order(self):
        chance = random.Random(6)
        for _ in range(200):
            spots = list(itertools.product(range(2), range(3), range(5)))
            chance.shuffle(spots)
            spots = spots[:chance.randint(0, 30)]
            self.told(dict((spot, chance.randint(0, 2)) for spot in spots))
            self.told(dict((spot, True) for spot in spots))

    def test_what_is_told_is_the_askers(self):
        marks = {(0, 0, 0): True}
        runs(marks=marks).clear()
        self.assertEqual(len(runs(marks)), 1)
