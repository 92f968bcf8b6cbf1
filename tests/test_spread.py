"""[4.2]: how prices spread, far and back."""

import random
import unittest

from wirefloor.spread import spread, way_back


def arcs_of(leads):
    return lambda mark: leads.get(mark, [])


def slow_far(leads, starts):
    """Prices brought down until nothing changes."""
    far = {}
    for mark, price in starts:
        far[mark] = min(price, far.get(mark, price))
    changed = True
    while changed:
        changed = False
        for mark in list(far):
            for other, price in leads.get(mark, []):
                if other not in far or far[mark] + price < far[other]:
                    far[other] = far[mark] + price
                    changed = True
    return far


class Spreads(unittest.TestCase):
    def told(self, leads, starts):
        kept, kept_starts = dict((mark, list(pairs)) for mark, pairs in leads.items()), list(starts)
        told = spread(arcs_of(leads), starts)
        self.assertIsInstance(told, tuple)
        self.assertEqual((leads, starts), (kept, kept_starts))
        far, back = told
        self.assertEqual(far, slow_far(leads, starts))
        self.assertEqual(set(far), set(back))
        for mark in far:
            as_start = min([price for start, price in starts if start == mark], default=None)
            if back[mark] is None:
                self.assertEqual(as_start, far[mark])
            else:
                self.assertNotEqual(as_start, far[mark])
                prices = [price for other, price in leads[back[mark]] if other == mark]
                self.assertEqual(far[back[mark]] + min(prices), far[mark])
            way = way_back(back, mark)
            self.assertEqual(way[-1], mark)
            self.assertIsNone(back[way[0]])
            self.assertEqual(len(set(way)), len(way))
            self.assertTrue(all(back[two] == one for one, two in zip(way, way[1:])))
        return far, back

    def test_no_starts(self):
        self.assertEqual(self.told({1: [(2, 1)]}, []), ({}, {}))

    def test_one_start_alone(self):
        self.assertEqual(self.told({}, [(7, 3)]), ({7: 3}, {7: None}))

    def test_a_line(self):
        leads = {1: [(2, 5)], 2: [(3, 5)], 4: [(1, 1)]}
        far, back = self.told(leads, [(1, 0)])
        self.assertEqual(far, {1: 0, 2: 5, 3: 10})
        self.assertEqual(back, {1: None, 2: 1, 3: 2})
        self.assertEqual(way_back(back, 3), [1, 2, 3])
        self.assertEqual(way_back(back=back, mark=1), [1])

    def test_a_start_told_several_times(self):
        self.assertEqual(self.told({}, [(1, 5), (1, 3), (1, 4)]), ({1: 3}, {1: None}))
        self.assertEqual(self.told({}, [(1, 3), (1, 3)])[0], {1: 3})

    def test_a_start_that_is_cheaper_by_an_arc(self):
        far, back = self.told({1: [(2, 2)]}, [(1, 0), (2, 3)])
        self.assertEqual((far, back), ({1: 0, 2: 2}, {1: None, 2: 1}))
        far, back = self.told({1: [(2, 2)]}, [(2, 3), (1, 0)])
        self.assertEqual((far, back), ({1: 0, 2: 2}, {1: None, 2: 1}))

    def test_a_start_that_costs_the_same_by_an_arc(self):
        for starts in ([(1, 0), (2, 2)], [(2, 2), (1, 0)]):
            self.assertEqual(self.told({1: [(2, 2)]}, starts), ({1: 0, 2: 2}, {1: None, 2: None}))
        leads = {1: [(2, 0)], 2: [(1, 0)]}
        self.assertEqual(self.told(leads, [(1, 4), (2, 4)]), ({1: 4, 2: 4}, {1: None, 2: None}))

    def test_prices_of_nought(self):
        leads = {1: [(2, 0), (3, 0)], 2: [(3, 0), (1, 0)], 3: [(1, 0), (2, 0), (4, 0)], 4: [(3, 0)]}
        for start in (1, 2, 3, 4):
            far, back = self.told(leads, [(start, 0)])
            self.assertEqual(set(far.values()), {0})

    def test_arcs_from_a_mark_to_itself(self):
        self.assertEqual(self.told({1: [(1, 0), (1, 4), (2, 1)], 2: [(2, 0)]}, [(1, 0)])[0], {1: 0, 2: 1})

    def test_several_arcs_between_two_marks(self):
        far, back = self.told({1: [(2, 7), (2, 3), (2, 5)]}, [(1, 1)])
        self.assertEqual((far, back), ({1: 1, 2: 4}, {1: None, 2: 1}))

    def test_marks_that_are_not_come_to(self):
        far, back = self.told({1: [(2, 1)], 3: [(1, 1)], 4: [(3, 1)]}, [(1, 0)])
        self.assertEqual((sorted(far), sorted(back)), ([1, 2], [1, 2]))

    def test_tuples_and_great_prices(self):
        leads = {(0, 0): [((0, 1), 10 ** 17), ((1, 0), 1)], (1, 0): [((0, 1), 10 ** 17 - 2)]}
        far, back = self.told(leads, [((0, 0), 10 ** 17)])
        self.assertEqual(far[(0, 1)], 2 * 10 ** 17 - 1)
        self.assertEqual(way_back(back, (0, 1)), [(0, 0), (1, 0), (0, 1)])

    def test_starts_below_nought(self):
        self.assertEqual(self.told({1: [(2, 3)]}, [(1, -5), (2, -1)])[0], {1: -5, 2: -2})

    def test_by_the_words(self):
        chance = random.Random(9)
        for _ in range(300):
            many = chance.randint(1, 9)
            leads = {}
            for mark in range(many):
                heads = [chance.randrange(many) for _ in range(chance.randint(0, 4))]
                leads[mark] = [(head, chance.choice([0, 0, 1, 2, 9])) for head in heads]
            starts = [(chance.randrange(many), chance.randint(0, 6)) for _ in range(chance.randint(0, 4))]
            self.told(leads, starts)

    def test_what_is_told_is_the_askers(self):
        far, back = spread(arcs=arcs_of({1: [(2, 3)]}), starts=[(1, 0)])
        way_back(back, 2).clear()
        self.assertEqual(back, {1: None, 2: 1})
        far.clear()
        self.assertEqual(spread(arcs_of({1: [(2, 3)]}), [(1, 0)])[0], {1: 0, 2: 3})

    def test_long_ways(self):
        leads = dict((mark, [(mark + 1, 1)]) for mark in range(5000))
        far, back = spread(arcs_of(leads), [(0, 0)])
        self.assertEqual(far[5000], 5000)
        self.assertEqual(way_back(back, 5000), list(range(5001)))
