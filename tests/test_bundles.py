"""[6.1] to [6.4]: how a bundle is laid, when its paper and a cut's paper hold, and what is told for it."""

import random
import unittest

from tests.helpers import MOST, free_of, line, plain_floor, random_floor, slow_least, spots_in, steps_over
from wirefloor.bundles import BundlePaper, CutPaper, bundled
from wirefloor.floor import Floor
from wirefloor.papers import Paper
from wirefloor.things import Bundle, Net


def slow_holds(wires, price, depth, heights, floor, free, thing):
    """By the words of 6.2."""
    if not isinstance(thing, Bundle) or not thing.sound(floor, wires):
        return False
    if any(spot not in free for step in wires for spot in step):
        return False
    if price != sum(floor.step_price(one, two) for one, two in wires):
        return False
    if any(spot not in free or floor.is_rock(spot) for spot in heights):
        return False

    def low(spot):
        return heights[spot][0] if spot in heights else depth

    def high(spot):
        return heights[spot][1] if spot in heights else depth

    if any(low(start) > 0 for start in thing.starts) or any(high(goal) < depth for goal in thing.goals):
        return False
    if any(low(two) > high(one) + cost for one, two, cost in steps_over(floor, free)):
        return False
    rents = sum(max(0, high(spot) - low(spot)) for spot in free)
    return price == len(thing.starts) * depth - rents


def slow_cut_holds(cut, spots, floor, free, thing):
    """By the words of 6.3."""
    cut, spots = list(cut), list(spots)
    if not isinstance(thing, Bundle) or cut != sorted(set(cut)) or spots != sorted(set(spots)):
        return False
    if len(cut) >= len(thing.starts) or set(cut) & set(spots):
        return False
    if any(spot not in free or floor.is_rock(spot) for spot in cut + spots):
        return False
    if any(start not in spots and start not in cut for start in thing.starts):
        return False
    if any(goal in spots for goal in thing.goals):
        return False
    return not any(one in spots and two not in spots and two not in cut for one, two, _ in steps_over(floor, free))


class Laid(unittest.TestCase):
    def told(self, floor, free, bundle, slow=False):
        kept = list(free.items())
        paper = bundled(floor, free, bundle)
        self.assertEqual(list(free.items()), kept)
        self.assertIs(paper.holds(floor, free, bundle), True)
        if paper.is_laid():
            self.assertIs(paper.__class__, BundlePaper)
            made = (paper.wires, paper.price, paper.depth, paper.heights)
            self.assertTrue(slow_holds(*made, floor, free, bundle))
            self.assertEqual(paper.wires, sorted((min(step), max(step)) for step in paper.wires))
            self.assertNotIn((paper.depth, paper.depth), paper.heights.values())
        else:
            self.assertIs(paper.__class__, CutPaper)
            self.assertTrue(slow_cut_holds(paper.cut, paper.spots, floor, free, bundle))
        if slow:
            least = slow_least(floor, free, bundle.starts, bundle.goals, len(bundle.starts))
            self.assertEqual(paper.price if paper.is_laid() else None, least)
        return paper

    def test_one_start(self):
        floor = plain_floor((1, 2, 4))
        paper = self.told(floor, free_of(spots_in((1, 2, 4))), Bundle("b", [(0, 0, 3)], [(0, 0, 1), (0, 1, 0)]), True)
        self.assertEqual((paper.wires, paper.price, paper.depth), (line(0, 1, 3), 20, 20))

    def test_two_starts(self):
        floor = plain_floor((1, 2, 4))
        bundle = Bundle("b", [(0, 0, 0), (0, 1, 0)], [(0, 1, 3), (0, 0, 3)])
        paper = self.told(floor, free_of(spots_in((1, 2, 4))), bundle, True)
        self.assertEqual((paper.wires, paper.price), (line(0, 0, 3) + line(1, 0, 3), 60))

    def test_a_cut(self):
        floor = plain_floor((1, 3, 5), [(0, 0, 2), (0, 2, 2)])
        bundle = Bundle("b", [(0, 0, 0), (0, 2, 0)], [(0, 0, 4), (0, 2, 4)])
        paper = self.told(floor, free_of(spots_in((1, 3, 5))), bundle, True)
        self.assertEqual(len(paper.cut), 1)

    def test_no_way_at_all(self):
        floor = plain_floor((1, 1, 4), [(0, 0, 2)])
        paper = self.told(floor, free_of(spots_in((1, 1, 4))), Bundle("b", [(0, 0, 0)], [(0, 0, 3)]), True)
        self.assertEqual((paper.cut, paper.spots), ((), ((0, 0, 0), (0, 0, 1))))

    def test_by_a_slow_search(self):
        chance = random.Random(23)
        cuts = 0
        for _ in range(200):
            sizes = chance.choice([(1, 3, 3), (1, 3, 4), (2, 2, 3), (1, 2, 6), (3, 2, 2)])
            floor = random_floor(chance, sizes, 0.1, 0.4, chance.choice([1, 3, 9, MOST]))
            spots = [spot for spot in spots_in(sizes) if chance.random() < 0.95]
            chance.shuffle(spots)
            clear = [spot for spot in spots if not floor.is_rock(spot)]
            many = chance.randint(1, 3)
            if len(clear) >= 2 * many:
                ends = chance.sample(clear, min(len(clear), 2 * many + chance.randint(0, 2)))
                cuts += not self.told(floor, free_of(spots), Bundle("b", ends[:many], ends[many:]), True).is_laid()
        self.assertTrue(10 < cuts < 170, cuts)

    def test_six_starts(self):
        chance = random.Random(24)
        for _ in range(15):
            floor = random_floor(chance, (2, 6, 6), 0.1, 0.3, 9)
            ends = chance.sample(floor.open_spots(), 18)
            self.told(floor, free_of(floor.open_spots()), Bundle("b", ends[:6], ends[6:chance.randint(12, 18)]))

    def test_the_same_each_time(self):
        floor, bundle = plain_floor((1, 3, 4)), Bundle("b", [(0, 0, 0), (0, 1, 0)], [(0, 1, 3), (0, 2, 3)])
        free = free_of(spots_in((1, 3, 4)))
        one, two = bundled(floor, free, bundle), bundled(floor=floor, free=free, bundle=bundle)
        self.assertEqual((one.wires, one.price, one.depth, one.heights), (two.wires, two.price, two.depth, two.heights))
        one.wires.clear()
        one.heights.clear()
        self.assertTrue(bundled(floor, free, bundle).holds(floor, free, bundle))


class BundlePapers(unittest.TestCase):
    """Two rows of four spots, with a third one above, of which one spot is shut and one a rock."""

    def setUp(self):
        self.floor = Floor((1, 3, 4), [(10, 10)], [], [(0, 2, 3)], {(0, 0, 1): 3})
        self.free = free_of([spot for spot in spots_in((1, 3, 4)) if spot != (0, 2, 0)])
        self.bundle = Bundle("b", [(0, 0, 0), (0, 1, 0)], [(0, 0, 3), (0, 1, 3)])
        paper = bundled(self.floor, self.free, self.bundle)
        self.wires, self.price, self.depth, self.heights = paper.wires, paper.price, paper.depth, paper.heights

    def told(self, wires=None, price=None, depth=None, heights=None, thing=None, free=None, floor=None):
        made = (self.wires if wires is None else wires, self.price if price is None else price,
                self.depth if depth is None else depth, self.heights if heights is None else heights)
        place = (self.floor if floor is None else floor, self.free if free is None else free,
                 self.bundle if thing is None else thing)
        told = BundlePaper(*made).holds(*place)
        self.assertIsInstance(told, bool)
        self.assertEqual(told, slow_holds(*made, *place))
        return told

    def moved(self, spot, low=0, high=0):
        pair = self.heights.get(spot, (self.depth, self.depth))
        return {**self.heights, spot: (pair[0] + low, pair[1] + high)}

    def test_as_it_is_told(self):
        self.assertTrue(self.told())
        self.assertEqual(self.price, 66)
        self.assertTrue(any(high > low for low, high in self.heights.values()))

    def test_values(self):
        paper = BundlePaper(self.wires, self.price, self.depth, self.heights)
        self.assertIsInstance(paper, Paper)
        self.assertIs(paper.is_laid(), True)
        self.assertEqual((paper.wires, paper.price, paper.depth, paper.heights),
                         (self.wires, self.price, self.depth, self.heights))
        paper = BundlePaper(wires=[((9, 9, 9), (0, 0, 0))] * 2, price=-5, depth=-1, heights={(8, 8, 8): (3, -3)})
        self.assertEqual((paper.wires, paper.price), ([((9, 9, 9), (0, 0, 0))] * 2, -5))
        self.assertEqual((paper.depth, paper.heights), (-1, {(8, 8, 8): (3, -3)}))
        self.assertFalse(paper.holds(self.floor, self.free, self.bundle))

    def test_lists_and_dicts_changed_behind(self):
        wires, heights = list(self.wires), dict(self.heights)
        paper = BundlePaper(wires, self.price, self.depth, heights)
        wires.pop()
        heights.clear()
        self.assertEqual((paper.wires, paper.heights), (self.wires, self.heights))
        self.assertTrue(paper.holds(self.floor, self.free, self.bundle))

    def test_what_is_handed_in_stays(self):
        kept = (list(self.free.items()), list(self.wires), dict(self.heights))
        BundlePaper(self.wires, self.price, self.depth, self.heights).holds(self.floor, self.free, self.bundle)
        self.assertEqual((list(self.free.items()), self.wires, self.heights), kept)

    def test_steps_that_are_not_sound(self):
        self.assertFalse(self.told(wires=[]))
        for place in range(len(self.wires)):
            wires = self.wires[:place] + self.wires[place + 1:]
            self.assertFalse(self.told(wires=wires, price=sum(self.floor.step_price(*step) for step in wires)))
        self.assertFalse(self.told(wires=self.wires + [self.wires[0]]))
        self.assertFalse(self.told(wires=self.wires + [((0, 1, 1), (0, 2, 1))]))
        self.assertFalse(self.told(wires=self.wires + [((0, 0, 3), (0, 0, 4))]))
        self.assertFalse(self.told(wires=self.wires + [((5, 5, 5), (5, 5, 6))]))

    def test_steps_turned_round_and_in_another_order(self):
        self.assertTrue(self.told(wires=[(two, one) for one, two in self.wires[::-1]]))

    def test_steps_over_spots_that_are_not_free(self):
        for spot in {spot for step in self.wires for spot in step}:
            free = free_of([one for one in self.free if one != spot])
            heights = dict((one, self.heights[one]) for one in self.heights if one != spot)
            self.assertFalse(self.told(free=free))
            self.assertFalse(self.told(free=free, heights=heights))

    def test_an_end_that_is_not_free_and_in_no_heights(self):
        floor, bundle = Floor((1, 1, 3), [(10, 10)], []), Bundle("b", [(0, 0, 0)], [(0, 0, 2)])
        heights = {(0, 0, 0): (0, 0), (0, 0, 1): (10, 10)}
        spots = spots_in((1, 1, 3))
        self.assertTrue(self.told(line(0, 0, 2), 20, 20, heights, bundle, free_of(spots), floor))
        self.assertFalse(self.told(line(0, 0, 2), 20, 20, heights, bundle, free_of(spots[:2]), floor))
        back = [(two, one) for one, two in line(0, 0, 2)]
        self.assertFalse(self.told(back, 20, 20, heights, bundle, free_of(spots[:2]), floor))

    def test_the_price(self):
        for price in (self.price - 1, self.price + 1, 0):
            self.assertFalse(self.told(price=price))
        # The price of the steps, yet not what depth and rents make.
        for depth in (self.depth - 1, self.depth + 1):
            self.assertFalse(self.told(depth=depth))

    def test_rents(self):
        for spot in ((0, 1, 1), (0, 0, 2), (0, 2, 1)):
            self.assertFalse(self.told(heights=self.moved(spot, low=-100)))
            self.assertFalse(self.told(heights=self.moved(spot, high=100)))

    def test_less_than_no_rent_is_none(self):
        floor, bundle = Floor((1, 2, 3), [(10, 10)], []), Bundle("b", [(0, 0, 0)], [(0, 0, 2)])
        free = free_of(spots_in((1, 2, 3)))
        heights = {(0, 0, 0): (0, 0), (0, 0, 1): (10, 10), (0, 1, 0): (10, 10), (0, 1, 2): (20, 19)}
        self.assertTrue(self.told(line(0, 0, 2), 20, 20, heights, bundle, free, floor))
        self.assertTrue(self.told(line(0, 0, 2), 20, 20, {**heights, (0, 1, 2): (20, 10)}, bundle, free, floor))
        self.assertFalse(self.told(line(0, 0, 2), 20, 20, {**heights, (0, 1, 2): (20, 9)}, bundle, free, floor))

    def test_spots_that_are_shut_or_outside(self):
        pair = (self.depth, self.depth)
        for spot in ((0, 2, 0), (0, 2, 3), (0, 0, 4), (-1, 0, 0), (1, 0, 0), (0, 3, 0), (9, 9, 9)):
            self.assertFalse(self.told(heights={**self.heights, spot: pair}), spot)
        self.assertTrue(self.told(heights={**self.heights, (0, 0, 3): self.heights.get((0, 0, 3), pair)}))

    def test_a_rock_that_is_told_free(self):
        self.assertIn((0, 2, 3), self.free)
        self.assertFalse(self.told(heights={**self.heights, (0, 2, 3): (0, 0)}))

    def test_starts_and_goals(self):
        floor, bundle = Floor((1, 1, 4), [(10, 10)], []), Bundle("b", [(0, 0, 1)], [(0, 0, 2), (0, 0, 3)])
        free, wires = free_of(spots_in((1, 1, 4))), line(0, 1, 2)
        good = {(0, 0, 1): (0, 0)}
        self.assertTrue(self.told(wires, 10, 10, good, bundle, free, floor))
        self.assertTrue(self.told(wires, 10, 10, {(0, 0, 1): (0, 0), (0, 0, 0): (-5, -5)}, bundle, free, floor))
        self.assertFalse(self.told(wires, 10, 10, {(0, 0, 1): (0, 0), (0, 0, 0): (-50, -50)}, bundle, free, floor))
        self.assertFalse(self.told(wires, 10, 10, {(0, 0, 1): (1, 0)}, bundle, free, floor))
        self.assertFalse(self.told(wires, 10, 10, {}, bundle, free, floor))
        self.assertFalse(self.told(wires, 10, 10, {**good, (0, 0, 2): (10, 9)}, bundle, free, floor))
        # A goal to which no way leads must stand high as well.
        self.assertFalse(self.told(wires, 10, 10, {**good, (0, 0, 3): (10, 9)}, bundle, free, floor))
        self.assertTrue(self.told(wires, 10, 10, {**good, (0, 0, 0): (10, 0)}, bundle, free, floor))

    def test_climbs(self):
        floor, bundle = Floor((1, 2, 3), [(10, 10)], []), Bundle("b", [(0, 0, 0)], [(0, 0, 2)])
        free = free_of(spots_in((1, 2, 3)))
        base = {(0, 0, 0): (0, 0), (0, 0, 1): (10, 10), (0, 1, 0): (10, 10)}
        wires = line(0, 0, 2)
        self.assertTrue(self.told(wires, 20, 20, base, bundle, free, floor))
        for low in (9, 10, 11):
            heights = {**base, (0, 1, 0): (low, 10)}
            self.assertEqual(self.told(wires, 20, 20, heights, bundle, free, floor), low == 10, low)
        # Either way round: the one to which it leads may be the lesser spot.
        heights = {**base, (0, 1, 1): (20, 20), (0, 1, 2): (20, 9)}
        self.assertFalse(self.told(wires, 20, 20, heights, bundle, free, floor))
        few = free_of([spot for spot in free if spot != (0, 1, 1)])
        self.assertFalse(self.told(wires, 20, 20, heights, bundle, few, floor))
        few = free_of([spot for spot in free if spot not in ((0, 1, 1), (0, 1, 2))])
        self.assertTrue(self.told(wires, 20, 20, base, bundle, few, floor))

    def test_every_height_moved(self):
        for spot in self.free:
            if not self.floor.is_rock(spot):
                for low in (-11, -1, 0, 1, 11):
                    for high in (-11, -1, 0, 1, 11):
                        self.told(heights=self.moved(spot, low, high))

    def test_for_other_things(self):
        self.assertFalse(self.told(thing=Net("n", [(0, 0, 0), (0, 0, 3)])))
        self.assertFalse(self.told(thing=Bundle("b", [(0, 0, 0)], [(0, 0, 3)])))
        self.assertFalse(self.told(thing=Bundle("b", [(0, 0, 0), (0, 2, 1)], [(0, 0, 3), (0, 1, 3)])))
        self.assertTrue(self.told(thing=Bundle("other", [(0, 1, 0), (0, 0, 0)], [(0, 1, 3), (0, 0, 3)], 3)))
        floor, wires = Floor((1, 1, 3), [(10, 10)], []), line(0, 0, 2)
        heights = {(0, 0, 0): (0, 0), (0, 0, 1): (10, 10)}
        net = Net("n", [(0, 0, 0), (0, 0, 2)])
        self.assertTrue(net.sound(floor, wires))
        self.assertFalse(self.told(wires, 20, 20, heights, net, free_of(spots_in((1, 1, 3))), floor))

    def test_on_another_floor(self):
        self.assertFalse(self.told(floor=Floor((1, 3, 4), [(10, 10)], [])))
        self.assertFalse(self.told(floor=Floor((1, 3, 4), [(9, 10)], [], [(0, 2, 3)], {(0, 0, 1): 3})))


class CutPapers(unittest.TestCase):
    """Three starts behind a wall in column 2 with two gaps, one of which isn't free."""

    def setUp(self):
        self.floor = plain_floor((1, 4, 4), [(0, 0, 2)])
        self.free = free_of([spot for spot in spots_in((1, 4, 4)) if spot not in ((0, 2, 2), (0, 3, 0))])
        self.bundle = Bundle("b", [(0, 0, 0), (0, 1, 0), (0, 2, 0)], [(0, 0, 3), (0, 1, 3), (0, 2, 3)])
        self.cut = [(0, 1, 2), (0, 3, 2)]
        self.spots = [spot for spot in spots_in((1, 4, 4)) if spot[2] < 2 and spot != (0, 3, 0)]

    def told(self, cut=None, spots=None, thing=None, free=None, floor=None):
        made = (self.cut if cut is None else cut, self.spots if spots is None else spots)
        place = (self.floor if floor is None else floor, self.free if free is None else free,
                 self.bundle if thing is None else thing)
        told = CutPaper(*made).holds(*place)
        self.assertIsInstance(told, bool)
        self.assertEqual(told, slow_cut_holds(*made, *place))
        return told

    def test_as_it_should_be(self):
        self.assertTrue(self.told())
        paper = bundled(self.floor, self.free, self.bundle)
        self.assertTrue(self.told(paper.cut, paper.spots))

    def test_values(self):
        paper = CutPaper(self.cut, self.spots)
        self.assertIsInstance(paper, Paper)
        self.assertIs(paper.is_laid(), False)
        self.assertEqual((paper.cut, paper.spots), (tuple(self.cut), tuple(self.spots)))
        self.assertIsInstance(paper.cut, tuple)
        self.assertIsInstance(paper.spots, tuple)
        paper = CutPaper(cut=[(9, 9, 9), (0, 0, 0)], spots=[(1, 1, 1)] * 2)
        self.assertEqual((paper.cut, paper.spots), (((9, 9, 9), (0, 0, 0)), ((1, 1, 1), (1, 1, 1))))

    def test_lists_changed_behind(self):
        cut, spots = list(self.cut), list(self.spots)
        paper = CutPaper(cut, spots)
        cut.pop()
        spots.clear()
        self.assertEqual((paper.cut, paper.spots), (tuple(self.cut), tuple(self.spots)))
        self.assertTrue(paper.holds(self.floor, self.free, self.bundle))

    def test_the_cut_out_of_order_or_one_twice(self):
        self.assertFalse(self.told(cut=self.cut[::-1]))
        self.assertFalse(self.told(cut=[(0, 1, 2), (0, 1, 2)]))
        wide = Bundle("b", [(0, 0, 0), (0, 1, 0), (0, 2, 0), (0, 2, 1)], [(0, 0, 3), (0, 1, 3), (0, 2, 3), (0, 3, 3)])
        self.assertTrue(self.told(thing=wide))
        self.assertFalse(self.told(cut=[(0, 1, 2), (0, 1, 2), (0, 3, 2)], thing=wide))

    def test_as_many_as_starts(self):
        self.assertFalse(self.told(cut=self.cut + [(0, 3, 3)]))
        self.assertFalse(self.told(cut=[(0, 0, 0), (0, 1, 0), (0, 2, 0)], spots=[]))
        two = Bundle("b", [(0, 0, 0), (0, 1, 0)], [(0, 0, 3), (0, 1, 3)])
        self.assertFalse(self.told(thing=two))
        self.assertTrue(self.told(cut=self.cut, thing=self.bundle))

    def test_the_cut_shut_or_outside(self):
        for spot in ((0, 0, 2), (0, 2, 2), (0, 3, 0), (-1, 0, 0), (0, 0, 9), (9, 9, 9), (0, 1, -1)):
            four = Bundle("b", list(self.bundle.starts) + [(0, 2, 1)], list(self.bundle.goals) + [(0, 3, 3)])
            self.assertFalse(self.told(cut=sorted(self.cut + [spot]), thing=four), spot)

    def test_a_rock_that_is_told_free(self):
        four = Bundle("b", list(self.bundle.starts) + [(0, 2, 1)], list(self.bundle.goals) + [(0, 3, 3)])
        free = self.free | {(0, 0, 2): True}
        self.assertTrue(self.told(free=free, thing=four))
        self.assertFalse(self.told(cut=sorted(self.cut + [(0, 0, 2)]), free=free, thing=four))
        self.assertFalse(self.told(spots=sorted(self.spots + [(0, 0, 2)]), free=free, thing=four))

    def test_the_spots_out_of_order_or_one_twice(self):
        self.assertFalse(self.told(spots=self.spots[::-1]))
        for place in range(len(self.spots)):
            self.assertFalse(self.told(spots=self.spots[:place + 1] + self.spots[place:]))

    def test_spots_shut_or_outside(self):
        for spot in ((0, 0, 2), (0, 2, 2), (0, 3, 0), (-1, 0, 0), (0, 0, 9), (9, 9, 9), (0, 1, -1)):
            self.assertFalse(self.told(spots=sorted(self.spots + [spot])), spot)

    def test_a_spot_that_is_in_the_cut(self):
        self.assertFalse(self.told(spots=sorted(self.spots + [(0, 1, 2)])))
        self.assertFalse(self.told(cut=[(0, 0, 1), (0, 1, 2)]))
        four = Bundle("b", list(self.bundle.starts) + [(0, 2, 1)], list(self.bundle.goals) + [(0, 3, 3)])
        both = [(0, 0, 1)] + self.cut
        self.assertTrue(self.told(cut=both, spots=[spot for spot in self.spots if spot != (0, 0, 1)], thing=four))
        self.assertFalse(self.told(cut=both, thing=four))

    def test_starts(self):
        for start in self.bundle.starts:
            self.assertFalse(self.told(spots=[spot for spot in self.spots if spot != start]))
        self.assertFalse(self.told(cut=[], spots=[]))
        # A start may be one of the cut.
        bundle = Bundle("b", [(0, 0, 0), (0, 0, 1)], [(0, 0, 3), (0, 1, 3)])
        few = free_of([(0, 0, 0), (0, 0, 1), (0, 0, 3), (0, 1, 3), (0, 1, 1), (0, 1, 2)])
        self.assertTrue(self.told(cut=[(0, 0, 1)], spots=[(0, 0, 0)], thing=bundle, free=few))

    def test_goals(self):
        # A goal may be in the cut, but not among the spots.
        floor = plain_floor((1, 2, 3))
        bundle = Bundle("b", [(0, 0, 0), (0, 1, 0)], [(0, 0, 1), (0, 1, 2)])
        few = free_of([(0, 0, 0), (0, 1, 0), (0, 0, 1), (0, 1, 2)])
        self.assertTrue(self.told(cut=[(0, 0, 1)], spots=[(0, 0, 0), (0, 1, 0)], thing=bundle, free=few, floor=floor))
        self.assertFalse(self.told(cut=[], spots=[(0, 0, 0), (0, 0, 1), (0, 1, 0)], thing=bundle, free=few,
                                   floor=floor))

    def test_steps_that_lead_out(self):
        for spot in self.cut:
            self.assertFalse(self.told(cut=[one for one in self.cut if one != spot]))
        for spot in self.spots:
            self.assertFalse(self.told(spots=[one for one in self.spots if one != spot]), spot)
        self.assertFalse(self.told(free=self.free | {(0, 2, 2): True}))
        self.assertFalse(self.told(free=self.free | {(0, 3, 0): True}))
        self.assertFalse(self.told(floor=plain_floor((1, 4, 4)), free=self.free | {(0, 0, 2): True}))

    def test_for_a_net(self):
        self.assertFalse(self.told(thing=Net("n", [(0, 0, 0), (0, 1, 0), (0, 0, 3)])))

    def test_by_the_words(self):
        chance = random.Random(25)
        spots = spots_in((1, 4, 4))
        for _ in range(300):
            cut, shore = set(self.cut), set(self.spots)
            for _ in range(chance.randint(0, 2)):
                chance.choice([cut, shore]).symmetric_difference_update({chance.choice(spots)})
            self.told(cut=sorted(cut), spots=sorted(shore))

    def test_what_is_handed_in_stays(self):
        kept = list(self.free.items())
        self.told()
        self.assertEqual(list(self.free.items()), kept)
