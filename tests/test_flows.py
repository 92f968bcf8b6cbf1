"""[6.7]: the flow, its ways, depth, lows and highs, and the cut and the shore where no more ways can be laid."""

import random
import unittest

from tests.helpers import MOST, free_of, plain_floor, random_floor, slow_least, spots_in, steps_over
from wirefloor.floor import Floor
from wirefloor.flows import Flow


def ends_by_chance(chance, spots, most_starts, most_goals):
    many = chance.randint(1, min(most_starts, len(spots) // 2))
    ends = chance.sample(spots, min(len(spots), many + chance.randint(many, max(many, most_goals))))
    return ends[:many], ends[many:]


class Flows(unittest.TestCase):
    def setUp(self):
        self.relaid = 0

    def check(self, flow, floor, free, starts, goals):
        """All that is told of a flow as long as its ways lie; its ways' price."""
        ways = flow.ways()
        self.assertEqual(len(ways), flow.many())
        firsts = [way[0] for way in ways]
        self.assertEqual(firsts, [start for start in starts if start in firsts])
        spots = [spot for way in ways for spot in way]
        self.assertEqual(len(set(spots)), len(spots))
        for way in ways:
            self.assertIn(way[0], starts)
            self.assertIn(way[-1], goals)
            self.assertTrue(all(spot in free for spot in way))
            self.assertTrue(all(spot not in starts and spot not in goals for spot in way[1:-1]))
        price = sum(floor.way_price(way) for way in ways)
        clear = [spot for spot in free if not floor.is_rock(spot)]
        rents = sum(max(0, flow.high(spot) - flow.low(spot)) for spot in clear)
        self.assertEqual(price, len(ways) * flow.depth - rents)
        self.assertTrue(all(flow.low(start) <= 0 for start in starts))
        self.assertTrue(all(flow.high(goal) >= flow.depth for goal in goals))
        self.assertTrue(all(max(flow.low(spot), flow.high(spot)) <= flow.depth for spot in clear))
        for one, two, cost in steps_over(floor, free):
            self.assertLessEqual(flow.low(two), flow.high(one) + cost)
        return price

    def check_end(self, flow, floor, free, starts, goals):
        cut, shore = flow.cut_spots(), flow.shore_spots()
        self.assertEqual(cut, sorted(set(cut)))
        self.assertEqual(shore, sorted(set(shore)))
        self.assertEqual(len(cut), flow.many())
        self.assertEqual(set(cut) & set(shore), set())
        for spot in cut + shore:
            self.assertTrue(spot in free and not floor.is_rock(spot))
        self.assertTrue(all(start in cut or start in shore for start in starts))
        self.assertTrue(all(goal not in shore for goal in goals))
        for one, two, _ in steps_over(floor, free):
            self.assertTrue(one not in shore or two in shore or two in cut)

    def state(self, flow, clear):
        return (flow.many(), flow.ways(), flow.depth, [(flow.low(spot), flow.high(spot)) for spot in clear])

    def run_through(self, floor, free, starts, goals, slow=False):
        """How many ways were laid, and the price of all; all bounds are looked at behind each more()."""
        kept = (list(free.items()), list(starts), list(goals))
        flow = Flow(floor, free, starts, goals)
        clear = [spot for spot in free if not floor.is_rock(spot)]
        self.assertEqual(self.state(flow, clear), (0, [], 0, [(0, 0)] * len(clear)))
        many, ways, price = 0, [], self.check(flow, floor, free, starts, goals)
        told = flow.more()
        while told:
            self.relaid += any(way not in flow.ways() for way in ways)
            ways = flow.ways()
            many += 1
            self.assertIs(told, True)
            self.assertEqual(flow.many(), many)
            price = self.check(flow, floor, free, starts, goals)
            if slow:
                self.assertEqual(price, slow_least(floor, free, starts, goals, many))
            told = flow.more()
        self.assertIs(told, False)
        before = self.state(flow, clear)
        self.check_end(flow, floor, free, starts, goals)
        self.assertIs(flow.more(), False)
        self.assertEqual(self.state(flow, clear), before)
        if slow:
            self.assertIsNone(slow_least(floor, free, starts, goals, many + 1))
        self.assertEqual((list(free.items()), list(starts), list(goals)), kept)
        return many, price

    def test_one_way(self):
        floor = plain_floor((1, 1, 4))
        told = self.run_through(floor, free_of(spots_in((1, 1, 4))), [(0, 0, 3)], [(0, 0, 0)], True)
        self.assertEqual(told, (1, 30))

    def test_none_can_be_laid(self):
        floor = plain_floor((1, 1, 4), [(0, 0, 2)])
        free = free_of(spots_in((1, 1, 4)))
        self.assertEqual(self.run_through(floor, free, [(0, 0, 3)], [(0, 0, 0)], True), (0, 0))
        flow = Flow(floor, free, [(0, 0, 0)], [(0, 0, 3)])
        self.assertEqual((flow.cut_spots(), flow.shore_spots()), ([], [(0, 0, 0), (0, 0, 1)]))

    def test_to_the_nearest_goal(self):
        floor = plain_floor((1, 1, 6))
        flow = Flow(floor, free_of(spots_in((1, 1, 6))), [(0, 0, 2)], [(0, 0, 5), (0, 0, 0)])
        self.assertTrue(flow.more())
        self.assertEqual(flow.ways(), [[(0, 0, 2), (0, 0, 1), (0, 0, 0)]])
        self.assertEqual(flow.depth, 20)

    def test_the_cut_of_a_full_flow(self):
        floor = plain_floor((1, 2, 2))
        starts, goals = [(0, 1, 0), (0, 0, 0)], [(0, 0, 1), (0, 1, 1)]
        free = free_of(spots_in((1, 2, 2)))
        self.assertEqual(self.run_through(floor, free, starts, goals, True), (2, 20))

    def test_a_way_must_be_laid_otherwise(self):
        # The cheapest way for one shuts the other in; it goes round when the second one comes.
        #   a . . b      the starts are a and c, the goals b and d
        #   . c d .
        prices = [(1, 1)]
        floor = Floor((1, 3, 4), prices, [], [], {(0, 0, 1): 5, (0, 0, 2): 5, (0, 2, 1): 3})
        free = free_of([spot for spot in spots_in((1, 3, 4)) if spot != (0, 2, 3)])
        starts, goals = [(0, 0, 0), (0, 1, 1)], [(0, 0, 3), (0, 1, 2)]
        self.run_through(floor, free, starts, goals, True)

    def test_a_narrow_place(self):
        # Three starts, a wall with two gaps: two ways, and the gaps are as many as the cut.
        floor = plain_floor((1, 3, 5), [(0, 1, 2)])
        free = free_of(spots_in((1, 3, 5)))
        starts = [(0, 0, 0), (0, 1, 0), (0, 2, 0)]
        goals = [(0, 0, 4), (0, 1, 4), (0, 2, 4)]
        self.assertEqual(self.run_through(floor, free, starts, goals, True)[0], 2)

    def test_crossed_pairs(self):
        # The first way is a short cut through the middle; both that lie in the end go round it.
        floor = Floor((1, 3, 3), [(1, 1)], [])
        starts, goals = [(0, 0, 1), (0, 1, 0)], [(0, 2, 1), (0, 1, 2)]
        self.assertEqual(self.run_through(floor, free_of(spots_in((1, 3, 3))), starts, goals, True), (2, 4))

    def test_by_a_slow_search(self):
        chance = random.Random(20)
        laid = dict((many, 0) for many in range(4))
        short = 0
        for _ in range(250):
            sizes = chance.choice([(1, 3, 3), (1, 3, 4), (2, 2, 3), (1, 2, 6), (3, 2, 2)])
            floor = random_floor(chance, sizes, chance.choice([0.05, 0.1, 0.3]), 0.4, chance.choice([1, 3, 9]))
            spots = [spot for spot in spots_in(sizes) if chance.random() < 0.93]
            chance.shuffle(spots)
            clear = [spot for spot in spots if not floor.is_rock(spot)]
            if len(clear) >= 2:
                starts, goals = ends_by_chance(chance, clear, 3, 4)
                many, _ = self.run_through(floor, free_of(spots), starts, goals, True)
                laid[many] += 1
                short += many < len(starts)
        self.assertTrue(all(count >= 3 for count in laid.values()), laid)
        self.assertGreater(short, 20)
        self.assertGreater(self.relaid, 20)

    def test_up_to_six_starts(self):
        chance = random.Random(21)
        laid = dict((many, 0) for many in range(7))
        for _ in range(70):
            sizes = (chance.randint(1, 3), chance.randint(3, 7), chance.randint(3, 7))
            floor = random_floor(chance, sizes, 0.15, 0.3, chance.choice([1, 4, 30, MOST]))
            spots = [spot for spot in spots_in(sizes) if chance.random() < 0.9]
            clear = [spot for spot in spots if not floor.is_rock(spot)]
            if len(clear) >= 8:
                starts, goals = ends_by_chance(chance, clear, 6, 12)
                laid[self.run_through(floor, free_of(spots), starts, goals)[0]] += 1
        self.assertGreater(laid[5] + laid[6], 3, laid)

    def test_the_greatest_floor(self):
        floor = random_floor(random.Random(22), (4, 16, 16), 0.1, 0.1)
        spots = floor.open_spots()
        starts, goals = spots[:6], spots[-12:]
        self.assertEqual(self.run_through(floor, free_of(spots), starts, goals)[0], 6)

    def test_what_is_handed_in_changed_behind(self):
        floor = plain_floor((1, 2, 4))
        free, starts, goals = free_of(spots_in((1, 2, 4))), [(0, 0, 0), (0, 1, 0)], [(0, 0, 3), (0, 1, 3)]
        flow = Flow(floor=floor, free=free, starts=starts, goals=goals)
        free.clear()
        starts.clear()
        goals.pop()
        self.assertTrue(flow.more())
        self.assertTrue(flow.more())
        self.assertFalse(flow.more())
        self.assertEqual([way[0] for way in flow.ways()], [(0, 0, 0), (0, 1, 0)])
        self.assertEqual(flow.low(spot=(0, 0, 0)), flow.low((0, 0, 0)))
        self.assertEqual(flow.high(spot=(0, 0, 3)), flow.depth)

    def test_what_is_told_changed_behind(self):
        floor = plain_floor((1, 2, 4))
        free, starts, goals = free_of(spots_in((1, 2, 4))), [(0, 0, 0), (0, 1, 0)], [(0, 0, 3), (0, 1, 3)]
        flow = Flow(floor, free, starts, goals)
        flow.more()
        ways = flow.ways()
        ways[0].clear()
        ways.clear()
        self.assertTrue(flow.more())
        self.check(flow, floor, free, starts, goals)
        flow.cut_spots().clear()
        flow.shore_spots().append((0, 0, 0))
        self.check_end(flow, floor, free, starts, goals)
        told = flow.ways()
        self.assertFalse(flow.more())
        self.assertEqual(told, flow.ways())

    def test_told_ways_stay_when_more_are_laid(self):
        floor = plain_floor((1, 3, 3))
        flow = Flow(floor, free_of(spots_in((1, 3, 3))), [(0, 0, 0), (0, 2, 0)], [(0, 0, 2), (0, 2, 2)])
        flow.more()
        told = flow.ways()
        kept = [list(way) for way in told]
        flow.more()
        self.assertEqual(told, kept)
