"""[5.5], [5.6], [5.7]: how a net is joined, when a tree's paper holds, and that what is told holds."""

import random
import unittest

from tests.helpers import MOST, free_of, plain_floor, random_floor, slow_far_over, spots_in, steps_over
from wirefloor.floor import Floor
from wirefloor.papers import Paper, ShorePaper
from wirefloor.things import Bundle, Net
from wirefloor.trees import TreePaper, joined


def stands(hill, spot):
    return hill[1][spot] if spot in hill[1] else hill[0]


def slow_hill_holds(hill, floor, free, net):
    top, heights = hill
    if not top > 0:
        return False
    if any(spot not in free or floor.is_rock(spot) or not 0 <= heights[spot] <= top - 1 for spot in heights):
        return False
    return any(stands(hill, pin) == 0 for pin in net.pins) and any(stands(hill, pin) == top for pin in net.pins)


def slow_holds(wires, price, hills, floor, free, thing):
    """By the words of 5.6."""
    if not isinstance(thing, Net) or not thing.sound(floor, wires):
        return False
    if any(spot not in free for step in wires for spot in step):
        return False
    if price != sum(floor.step_price(one, two) for one, two in wires):
        return False
    if not all(slow_hill_holds(hill, floor, free, thing) for hill in hills):
        return False
    for one, two, cost in steps_over(floor, free):
        if sum(abs(stands(hill, one) - stands(hill, two)) for hill in hills) > 2 * cost:
            return False
    pins = len(thing.pins)
    return pins * price <= (pins - 1) * sum(top for top, _ in hills)


def slow_links(pins, fars):
    """Between places of pins, from the least on, as 5.2 takes them."""
    links = sorted((fars[one][pins[two]], one, two) for one in range(len(pins)) for two in range(one + 1, len(pins))
                   if pins[two] in fars[one])
    parts = [frozenset([place]) for place in range(len(pins))]
    told = []
    for price, one, two in links:
        if parts[one] != parts[two]:
            told.append((price, parts[one], parts[two]))
            both = parts[one] | parts[two]
            parts = [both if part & both else part for part in parts]
    return told


def slow_hills(floor, free, pins):
    """The hills round all parts but the last one, by the words of 5.4 and 5.5; None where pins don't come together."""
    fars = [slow_far_over(floor, free, [pin]) for pin in pins]
    links = slow_links(pins, fars)
    if len(links) < len(pins) - 1:
        return None
    born = dict((frozenset([place]), 0) for place in range(len(pins)))
    hills = []
    for price, one, two in links:
        born[one | two] = price
        for part in (one, two):
            heights = {}
            for spot in free:
                far = min([fars[place][spot] for place in part if spot in fars[place]], default=None)
                high = price if far is None else min(max(2 * far, born[part]), price)
                if high < price:
                    heights[spot] = high - born[part]
            if price > born[part]:
                hills.append((price - born[part], heights))
    return hills, sum(price for price, _, _ in links)


def in_some_order(hills):
    return sorted((top, sorted(heights.items())) for top, heights in hills)


class Joined(unittest.TestCase):
    def told(self, floor, free, net):
        kept = list(free.items())
        paper = joined(floor, free, net)
        self.assertEqual(list(free.items()), kept)
        self.assertIs(paper.holds(floor, free, net), True)
        want = slow_hills(floor, free, net.pins)
        if want is None:
            self.assertIs(paper.__class__, ShorePaper)
            self.assertEqual(paper.spots, tuple(sorted(slow_far_over(floor, free, [net.pins[0]]))))
            return paper
        hills, links = want
        self.assertIs(paper.__class__, TreePaper)
        self.assertTrue(slow_holds(paper.wires, paper.price, paper.hills, floor, free, net))
        self.assertEqual(paper.wires, sorted((min(step), max(step)) for step in paper.wires))
        self.assertLessEqual(paper.price, links)
        self.assertEqual(in_some_order(paper.hills), in_some_order(hills))
        return paper

    def test_two_pins(self):
        floor = plain_floor((1, 3, 4))
        net = Net("n", [(0, 0, 3), (0, 0, 0)])
        paper = self.told(floor, free_of(spots_in((1, 3, 4))), net)
        self.assertEqual(paper.wires, [((0, 0, column), (0, 0, column + 1)) for column in range(3)])
        self.assertEqual(paper.price, 30)
        self.assertEqual([top for top, _ in paper.hills], [30, 30])

    def test_three_pins_in_a_row(self):
        floor = plain_floor((1, 1, 6))
        paper = self.told(floor, free_of(spots_in((1, 1, 6))), Net("n", [(0, 0, 0), (0, 0, 5), (0, 0, 2)]))
        self.assertEqual(paper.price, 50)
        self.assertEqual(sorted(top for top, _ in paper.hills), [10, 20, 20, 30])

    def test_a_part_that_dies_as_it_is_born(self):
        floor = Floor((1, 1, 3), [(5, 5)], [])
        paper = self.told(floor, free_of(spots_in((1, 1, 3))), Net("n", [(0, 0, 0), (0, 0, 1), (0, 0, 2)]))
        self.assertEqual([top for top, _ in paper.hills], [5, 5, 5])

    def test_ways_that_share_steps(self):
        floor = Floor((1, 5, 5), [(10, 10)], [], [], dict((spot, 5) for spot in spots_in((1, 5, 5)) if spot[2] != 2))
        net = Net("n", [(0, 0, 2), (0, 4, 1), (0, 4, 3)])
        self.told(floor, free_of(spots_in((1, 5, 5))), net)

    def test_pins_that_do_not_come_together(self):
        floor = plain_floor((1, 3, 4), [(0, 1, column) for column in range(4)])
        free = free_of(spots_in((1, 3, 4)))
        paper = self.told(floor, free, Net("n", [(0, 2, 1), (0, 0, 0), (0, 2, 3)]))
        self.assertEqual(paper.spots, tuple((0, 2, column) for column in range(4)))
        paper = self.told(floor, free, Net("n", [(0, 0, 1), (0, 0, 0), (0, 2, 3)]))
        self.assertEqual(paper.spots, tuple((0, 0, column) for column in range(4)))

    def test_great_prices(self):
        floor = Floor((2, 3, 4), [(MOST, MOST - 7), (1, MOST)], [MOST - 3], [(0, 1, 1)],
                      dict((spot, MOST - sum(spot)) for spot in spots_in((2, 3, 4))))
        self.told(floor, free_of(spots_in((2, 3, 4))), Net("n", [(0, 0, 0), (0, 2, 3), (1, 1, 2), (0, 2, 0)]))

    def test_six_pins_on_the_greatest_floor(self):
        floor = random_floor(random.Random(18), (4, 16, 16), 0.1, 0.2)
        spots = floor.open_spots()
        net = Net("n", [spots[place] for place in (0, 200, 400, 500, 700, len(spots) - 1)])
        self.assertTrue(joined(floor, free_of(spots), net).holds(floor, free_of(spots), net))

    def test_by_the_words(self):
        chance = random.Random(19)
        shores = 0
        for _ in range(200):
            sizes = (chance.randint(1, 2), chance.randint(2, 5), chance.randint(2, 5))
            floor = random_floor(chance, sizes, 0.2, 0.3, chance.choice([1, 2, 20, MOST]))
            spots = [spot for spot in spots_in(sizes) if chance.random() < 0.9]
            chance.shuffle(spots)
            clear = [spot for spot in spots if not floor.is_rock(spot)]
            if len(clear) >= 2:
                pins = chance.sample(clear, chance.randint(2, min(6, len(clear))))
                shores += not self.told(floor, free_of(spots), Net("n", pins)).is_laid()
        self.assertTrue(20 < shores < 180, shores)

    def test_the_same_each_time(self):
        floor = plain_floor((1, 4, 4))
        free, net = free_of(spots_in((1, 4, 4))), Net("n", [(0, 0, 0), (0, 3, 3), (0, 0, 3)])
        one, two = joined(floor, free, net), joined(floor=floor, free=free, net=net)
        self.assertEqual((one.wires, one.price, one.hills), (two.wires, two.price, two.hills))
        one.wires.clear()
        one.hills.clear()
        self.assertTrue(joined(floor, free, net).holds(floor, free, net))


class Papers(unittest.TestCase):
    """A line of six spots, three of them pins; a second row is there beside it."""

    def setUp(self):
        self.floor = Floor((1, 3, 6), [(10, 10)], [], [(0, 2, 5)], {(0, 0, 3): 4})
        shut = [(0, 2, 0), (0, 1, 5)]
        self.free = free_of([spot for spot in spots_in((1, 3, 6)) if spot not in shut])
        self.net = Net("n", [(0, 0, 0), (0, 0, 5), (0, 0, 2)])
        paper = joined(self.floor, self.free, self.net)
        self.wires, self.price, self.hills = paper.wires, paper.price, paper.hills

    def told(self, wires=None, price=None, hills=None, thing=None, free=None, floor=None):
        made = (self.wires if wires is None else wires, self.price if price is None else price,
                self.hills if hills is None else hills)
        place = (self.floor if floor is None else floor, self.free if free is None else free,
                 self.net if thing is None else thing)
        told = TreePaper(*made).holds(*place)
        self.assertIsInstance(told, bool)
        self.assertEqual(told, slow_holds(*made, *place))
        return told

    def put(self, place, top=None, **heights):
        """The hills with one of them otherwise; heights by names like s0_1_2."""
        hills = [(one, dict(high)) for one, high in self.hills]
        old_top, old = hills[place]
        for name, high in heights.items():
            spot = tuple(int(part) for part in name[1:].split("_"))
            if high is None:
                old.pop(spot, None)
            else:
                old[spot] = high
        hills[place] = (old_top if top is None else top, old)
        return hills

    def test_as_it_is_told(self):
        self.assertTrue(self.told())
        self.assertEqual(len(self.wires), 5)
        self.assertEqual(self.price, 58)
        self.assertTrue(self.told(hills=self.hills[::-1]))

    def test_values(self):
        paper = TreePaper(self.wires, self.price, self.hills)
        self.assertIsInstance(paper, Paper)
        self.assertIs(paper.is_laid(), True)
        self.assertEqual((paper.wires, paper.price, paper.hills), (self.wires, self.price, self.hills))
        self.assertIsInstance(paper.wires, list)
        self.assertIsInstance(paper.hills, list)
        paper = TreePaper(wires=[((9, 9, 9), (0, 0, 0))] * 2, price=-5, hills=[(-1, {(8, 8, 8): 9}), (0, {})])
        self.assertEqual(paper.wires, [((9, 9, 9), (0, 0, 0))] * 2)
        self.assertEqual((paper.price, paper.hills), (-5, [(-1, {(8, 8, 8): 9}), (0, {})]))
        self.assertFalse(paper.holds(self.floor, self.free, self.net))

    def test_lists_and_dicts_changed_behind(self):
        wires, hills = list(self.wires), [(top, dict(heights)) for top, heights in self.hills]
        paper = TreePaper(wires, self.price, hills)
        wires.pop()
        hills[0][1].clear()
        hills.pop()
        self.assertEqual((paper.wires, paper.hills), (self.wires, self.hills))
        self.assertTrue(paper.holds(self.floor, self.free, self.net))

    def test_what_is_handed_in_stays(self):
        kept = (list(self.free.items()), list(self.wires), [(top, dict(heights)) for top, heights in self.hills])
        TreePaper(self.wires, self.price, self.hills).holds(self.floor, self.free, self.net)
        self.assertEqual((list(self.free.items()), self.wires, self.hills), kept)

    def test_steps_that_are_not_sound(self):
        self.assertFalse(self.told(wires=[]))
        self.assertFalse(self.told(wires=[], price=0))
        for place in range(5):
            wires = self.wires[:place] + self.wires[place + 1:]
            self.assertFalse(self.told(wires=wires, price=sum(self.floor.step_price(*step) for step in wires)))
        self.assertFalse(self.told(wires=self.wires + [self.wires[0]], price=self.price + 10))
        self.assertFalse(self.told(wires=self.wires + [((0, 0, 0), (0, 1, 0))], price=self.price + 10))
        self.assertFalse(self.told(wires=self.wires + [((0, 0, 5), (0, 0, 6))]))
        self.assertFalse(self.told(wires=self.wires + [((-1, 0, 0), (0, 0, 0))]))

    def test_steps_turned_round_and_in_another_order(self):
        self.assertTrue(self.told(wires=[(two, one) for one, two in self.wires[::-1]]))

    def test_steps_over_spots_that_are_not_free(self):
        for spot in [(0, 0, column) for column in range(6)]:
            free = free_of([one for one in self.free if one != spot])
            hills = [(top, dict((one, high) for one, high in heights.items() if one != spot)) for top,
                     heights in self.hills]
            self.assertFalse(self.told(free=free, hills=hills), spot)
            self.assertFalse(self.told(free=free), spot)

    def test_an_end_that_is_not_free_and_in_no_heights(self):
        floor = Floor((1, 1, 3), [(10, 10)], [])
        spots, net = spots_in((1, 1, 3)), Net("n", [(0, 0, 0), (0, 0, 2)])
        wires = [((0, 0, 0), (0, 0, 1)), ((0, 0, 1), (0, 0, 2))]
        for pin, other in (net.pins, net.pins[::-1]):
            hill = (40, {pin: 0, (0, 0, 1): 20})
            self.assertTrue(self.told(wires, 20, [hill], net, free_of(spots), floor))
            self.assertFalse(self.told(wires, 20, [hill], net, free_of([spot for spot in spots if spot != other]),
                                       floor))

    def test_the_price(self):
        for price in (self.price - 1, self.price + 1, 0, -self.price):
            self.assertFalse(self.told(price=price))

    def test_tops(self):
        for place, hill in enumerate(self.hills):
            self.assertFalse(self.told(hills=self.put(place, top=hill[0] + 1)))
            self.told(hills=self.put(place, top=hill[0] - 1))
        for top in (0, -1):
            self.assertFalse(self.told(hills=self.hills + [(top, {})]))

    def test_a_hill_of_no_climb(self):
        # A top above nought, yet no pin at nought, or none at the top.
        self.assertFalse(self.told(hills=self.hills + [(5, {})]))
        flat = dict((spot, 0) for spot in self.free if not self.floor.is_rock(spot))
        self.assertFalse(self.told(hills=self.hills + [(5, flat)]))

    def test_heights_out_of_bounds(self):
        for place in range(len(self.hills)):
            top = self.hills[place][0]
            for high in (-1, top, top + 1):
                self.assertFalse(self.told(hills=self.put(place, s0_1_2=high)))
                self.assertFalse(self.told(hills=self.put(place, s0_2_4=high)))

    def test_heights_at_spots_that_are_shut(self):
        for name in ("s0_2_0", "s0_1_5", "s0_2_5"):
            for place in range(len(self.hills)):
                self.assertFalse(self.told(hills=self.put(place, **{name: self.hills[place][0] - 1})), name)

    def test_heights_outside(self):
        for spot in ((0, 0, 6), (0, -1, 0), (1, 0, 0), (-1, 0, 0), (9, 9, 9)):
            top, heights = self.hills[0]
            self.assertFalse(self.told(hills=[(top, {**heights, spot: top - 1})] + self.hills[1:]), spot)

    def test_a_rock_that_is_told_free(self):
        free = self.free | {(0, 2, 5): True}
        self.assertTrue(self.told(free=free))
        self.assertFalse(self.told(free=free, hills=self.put(0, s0_2_5=0)))

    def test_no_pin_at_nought_or_none_at_the_top(self):
        floor = Floor((1, 1, 3), [(10, 10)], [])
        free, net = free_of(spots_in((1, 1, 3))), Net("n", [(0, 0, 0), (0, 0, 2)])
        wires = [((0, 0, 0), (0, 0, 1)), ((0, 0, 1), (0, 0, 2))]
        good = [(40, {(0, 0, 0): 0, (0, 0, 1): 20})]
        self.assertTrue(self.told(wires, 20, good, net, free, floor))
        self.assertFalse(self.told(wires, 20, [(40, {(0, 0, 0): 1, (0, 0, 1): 20})], net, free, floor))
        self.assertFalse(self.told(wires, 20, [(40, {(0, 0, 0): 0, (0, 0, 1): 20, (0, 0, 2): 39})], net, free, floor))
        self.assertFalse(self.told(wires, 20, [(41, {(0, 0, 0): 0, (0, 0, 1): 20, (0, 0, 2): 40})], net, free, floor))

    def test_climbs(self):
        floor = Floor((1, 2, 3), [(10, 10)], [])
        free, net = free_of(spots_in((1, 2, 3))), Net("n", [(0, 0, 0), (0, 0, 2)])
        wires = [((0, 0, 0), (0, 0, 1)), ((0, 0, 1), (0, 0, 2))]
        left = {(0, 0, 0): 0, (0, 1, 0): 0}
        for middle in (19, 20, 21):
            hill = (40, {**left, (0, 0, 1): middle, (0, 1, 1): 20})
            self.assertEqual(self.told(wires, 20, [hill], net, free, floor), middle == 20)
        # A step away from the wiring counts as well, unless one of its ends is shut.
        hill = (40, {**left, (0, 0, 1): 20, (0, 1, 1): 21})
        self.assertFalse(self.told(wires, 20, [hill], net, free, floor))
        few = free_of([spot for spot in free if spot != (0, 1, 0)])
        self.assertFalse(self.told(wires, 20, [hill], net, few, floor))
        few = free_of([spot for spot in free if spot[1] == 0])
        self.assertTrue(self.told(wires, 20, [(40, {(0, 0, 0): 0, (0, 0, 1): 20})], net, few, floor))
        # Several hills climb together.
        half = [(20, {(0, 0, 0): 0, (0, 0, 1): 10}), (20, {(0, 0, 2): 0, (0, 0, 1): 10})]
        self.assertTrue(self.told(wires, 20, half, net, few, floor))
        self.assertFalse(self.told(wires, 20, half + [(1, {(0, 0, 0): 0})], net, few, floor))

    def test_tops_that_are_too_few(self):
        for place in range(len(self.hills)):
            self.assertFalse(self.told(hills=self.hills[:place] + self.hills[place + 1:]))
        self.assertFalse(self.told(hills=[]))

    def test_just_enough(self):
        floor = Floor((1, 1, 4), [(3, 3)], [])
        free, net = free_of(spots_in((1, 1, 4))), Net("n", [(0, 0, 0), (0, 0, 3)])
        wires = [((0, 0, column), (0, 0, column + 1)) for column in range(3)]
        for top in (17, 18, 19):
            hill = (top, {(0, 0, 0): 0, (0, 0, 1): 6, (0, 0, 2): 12})
            self.assertEqual(self.told(wires, 9, [hill], net, free, floor), top == 18)

    def test_for_other_things(self):
        self.assertFalse(self.told(thing=Bundle("b", [(0, 0, 0)], [(0, 0, 5)])))
        self.assertFalse(self.told(thing=Net("n", [(0, 0, 0), (0, 0, 4)])))
        self.assertFalse(self.told(thing=Net("n", [(0, 0, 0), (0, 0, 5), (0, 1, 2)])))
        self.assertFalse(self.told(thing=Net("n", [(0, 0, 0), (0, 0, 5), (9, 9, 9)])))
        self.assertTrue(self.told(thing=Net("other", [(0, 0, 5), (0, 0, 2), (0, 0, 0)], 2, 3)))
        line = Bundle("b", [(0, 0, 0)], [(0, 0, 5)])
        self.assertTrue(line.sound(self.floor, self.wires))

    def test_over_more_free_spots(self):
        # A spot more may let a step climb too much.
        floor = Floor((1, 2, 5), [(10, 10)], [])
        net = Net("n", [(0, 0, 0), (0, 0, 4)])
        few = free_of([(0, 0, column) for column in range(5)])
        paper = joined(floor, few, net)
        self.assertTrue(paper.holds(floor, few, net))
        self.assertFalse(self.told(paper.wires, paper.price, paper.hills, net, few | {(0, 1, 0): True}, floor))

    def test_on_another_floor(self):
        self.assertFalse(self.told(floor=Floor((1, 3, 6), [(10, 10)], [])))
        self.assertFalse(self.told(floor=plain_floor((1, 3, 6))))
        self.assertFalse(self.told(floor=Floor((1, 3, 6), [(10, 10)], [], [(0, 0, 1)], {(0, 0, 3): 4})))
