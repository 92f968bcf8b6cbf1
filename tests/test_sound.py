"""[2.2]: when a wiring is sound for a net or a bundle on a floor."""

import unittest

from tests.helpers import line, plain_floor, steps_in, subsets
from wirefloor.things import Bundle, Net


def turned(wiring):
    return [(two, one) for one, two in wiring]


def pieces(wiring):
    """The spots of a wiring, parted into lists of those that hang together."""
    found = []
    for one, two in wiring:
        touched = [piece for piece in found if one in piece or two in piece]
        found = [piece for piece in found if piece not in touched]
        found.append({one, two}.union(*touched))
    return found


def steps_at(wiring, spot):
    return len([step for step in wiring if spot in step])


def slow_net(net, wiring):
    """Of steps that stand once each: whether they are sound for a net, by the words alone."""
    if len(wiring) == 0 or len(pieces(wiring)) != 1:
        return False
    spots = pieces(wiring)[0]
    for place in range(len(wiring)):
        # Without a ring each step is the only link between its two ends.
        left = pieces(wiring[:place] + wiring[place + 1:])
        if any(set(wiring[place]) <= piece for piece in left):
            return False
    if not set(net.pins) <= spots:
        return False
    return all(steps_at(wiring, spot) != 1 or spot in net.pins for spot in spots)


def slow_bundle(bundle, wiring):
    """Each piece is a line from a start to a goal, and each start is at the end of one."""
    for piece in pieces(wiring):
        ends = sorted(spot for spot in piece if steps_at(wiring, spot) == 1)
        if len(ends) != 2 or any(steps_at(wiring, spot) > 2 for spot in piece):
            return False
        if sorted(spot for spot in piece if spot in bundle.ends()) != ends:
            return False
        if len([spot for spot in ends if spot in bundle.starts]) != 1:
            return False
    return all(steps_at(wiring, start) == 1 for start in bundle.starts)


class NetsOneByOne(unittest.TestCase):
    def setUp(self):
        self.floor = plain_floor((2, 4, 5), [(0, 3, 2)], {(0, 0, 1): 4})
        self.net = Net("n", [(0, 0, 0), (0, 0, 3)])
        self.wiring = line(0, 0, 3)

    def told(self, wiring, net=None):
        told = (self.net if net is None else net).sound(self.floor, wiring)
        self.assertIsInstance(told, bool)
        return told

    def test_a_line(self):
        self.assertTrue(self.told(self.wiring))
        self.assertTrue(self.told(turned(self.wiring)))
        self.assertTrue(self.told(list(reversed(self.wiring))))
        self.assertTrue(self.told([self.wiring[1], turned(self.wiring)[2], self.wiring[0]]))

    def test_no_steps_at_all(self):
        self.assertFalse(self.told([]))

    def test_through_a_via(self):
        net = Net("n", [(0, 0, 0), (1, 1, 0)])
        self.assertTrue(self.told([((0, 0, 0), (1, 0, 0)), ((1, 0, 0), (1, 1, 0))], net))

    def test_half_and_room_do_not_matter(self):
        net = Net("n", [(0, 0, 0), (0, 0, 3)], 2, 3)
        self.assertTrue(self.told(self.wiring, net))

    def test_pairs_that_are_no_steps(self):
        jump = [((0, 0, 0), (0, 0, 2)), ((0, 0, 2), (0, 0, 3))]
        aslant = [((0, 0, 0), (0, 1, 1)), ((0, 1, 1), (0, 0, 2)), ((0, 0, 2), (0, 0, 3))]
        for wiring in (jump, aslant, [((0, 0, 0), (0, 0, 3))], self.wiring + [((0, 0, 0), (0, 0, 0))]):
            self.assertFalse(self.told(wiring))
            self.assertFalse(self.told(turned(wiring)))
        net = Net("n", [(0, 0, 4), (0, 1, 0)])
        self.assertFalse(self.told([((0, 0, 4), (0, 1, 0))], net))

    def test_pairs_at_rocks(self):
        net = Net("n", [(0, 3, 1), (0, 3, 3)])
        self.assertFalse(self.told(line(3, 1, 3), net))
        net = Net("n", [(0, 3, 1), (0, 3, 2)])
        self.assertFalse(self.told(line(3, 1, 2), net))
        self.assertFalse(self.told(turned(line(3, 1, 2)), net))

    def test_pairs_outside_are_no_steps_and_nothing_is_refused(self):
        cases = [
            [(0, 0, 0), (0, -1, 0)], [(0, 0, 0), (0, 0, -1)], [(0, 0, 4), (0, 0, 5)],
            [(0, 3, 0), (0, 4, 0)], [(1, 0, 0), (2, 0, 0)], [(0, 0, 0), (-1, 0, 0)],
            [(7, 7, 7), (7, 7, 8)], [(-1, -1, -1), (-1, -1, -2)],
        ]
        for pins in cases:
            net = Net("n", pins)
            self.assertFalse(self.told([tuple(pins)], net), pins)
            self.assertFalse(self.told([(pins[1], pins[0])], net), pins)

    def test_a_step_twice(self):
        for step in self.wiring:
            self.assertFalse(self.told(self.wiring + [step]))
            self.assertFalse(self.told([step] + self.wiring))

    def test_a_step_turned_round(self):
        for step in turned(self.wiring):
            self.assertFalse(self.told(self.wiring + [step]))
            self.assertFalse(self.told([step] + self.wiring))

    def test_a_ring(self):
        ring = [((0, 0, 1), (0, 1, 1)), ((0, 1, 1), (0, 1, 2)), ((0, 1, 2), (0, 0, 2))]
        self.assertFalse(self.told(self.wiring + ring))
        net = Net("n", [(0, 0, 1), (0, 1, 2)])
        self.assertFalse(self.told(ring + line(0, 1, 2), net))
        self.assertTrue(self.told([self.wiring[0], self.wiring[2]] + ring))

    def test_a_ring_by_itself(self):
        ring = [((1, 0, 1), (1, 1, 1)), ((1, 1, 1), (1, 1, 2)), ((1, 1, 2), (1, 0, 2)), ((1, 0, 2), (1, 0, 1))]
        self.assertFalse(self.told(self.wiring + ring))

    def test_loose_ends(self):
        self.assertFalse(self.told(self.wiring + [((0, 0, 1), (0, 1, 1))]))
        self.assertFalse(self.told(self.wiring + [((0, 0, 3), (0, 0, 4))]))
        self.assertTrue(self.told(line(0, 0, 4), Net("n", [(0, 0, 0), (0, 0, 3), (0, 0, 4)])))

    def test_pins_off_the_tree(self):
        self.assertFalse(self.told(self.wiring, Net("n", [(0, 0, 0), (0, 0, 3), (0, 2, 0)])))
        self.assertFalse(self.told(self.wiring, Net("n", [(0, 0, 0), (0, 0, 3), (1, 0, 0)])))
        self.assertFalse(self.told(self.wiring, Net("n", [(0, 0, 0), (0, 0, 3), (0, -1, 0)])))
        self.assertTrue(self.told(self.wiring, Net("n", [(0, 0, 0), (0, 0, 3), (0, 0, 1)])))

    def test_steps_that_do_not_hang_together(self):
        net = Net("n", [(0, 0, 0), (0, 0, 1), (0, 2, 0), (0, 2, 1)])
        self.assertFalse(self.told(line(0, 0, 1) + line(2, 0, 1), net))
        # As many spots as a tree would have, yet one piece is a ring.
        ring = [((0, 1, 1), (0, 1, 2)), ((0, 1, 2), (0, 2, 2)), ((0, 2, 2), (0, 2, 1)), ((0, 2, 1), (0, 1, 1))]
        net = Net("n", [(0, 0, 0), (0, 0, 1), (0, 1, 1)])
        self.assertFalse(self.told(line(0, 0, 1) + ring, net))

    def test_a_star_of_three(self):
        net = Net("n", [(0, 1, 0), (0, 1, 2), (0, 2, 1)])
        wiring = line(1, 0, 2) + [((0, 2, 1), (0, 1, 1))]
        self.assertTrue(self.told(wiring, net))
        self.assertFalse(self.told(wiring[:2], net))


class BundlesOneByOne(unittest.TestCase):
    def setUp(self):
        self.floor = plain_floor((2, 4, 6), [(0, 3, 3)])
        self.bundle = Bundle("b", [(0, 0, 0), (0, 1, 0)], [(0, 0, 3), (0, 1, 3), (0, 2, 3)])
        self.wiring = line(0, 0, 3) + line(1, 0, 3)

    def told(self, wiring, bundle=None):
        told = (self.bundle if bundle is None else bundle).sound(self.floor, wiring)
        self.assertIsInstance(told, bool)
        return told

    def test_two_lines(self):
        self.assertTrue(self.told(self.wiring))
        self.assertTrue(self.told(turned(self.wiring)))
        self.assertTrue(self.told(self.wiring[::-1]))
        self.assertTrue(self.told(self.wiring[::2] + turned(self.wiring[1::2])))

    def test_to_any_goal(self):
        down = [((0, 1, 2), (0, 2, 2)), ((0, 2, 2), (0, 2, 3))]
        self.assertTrue(self.told(line(0, 0, 3) + line(1, 0, 2) + down))

    def test_through_a_via(self):
        bundle = Bundle("b", [(0, 0, 0)], [(1, 0, 0)])
        self.assertTrue(self.told([((1, 0, 0), (0, 0, 0))], bundle))

    def test_no_steps_at_all(self):
        self.assertFalse(self.told([]))
        self.assertFalse(self.told([], Bundle("b", [(0, 0, 0)], [(0, 0, 1)])))

    def test_pairs_that_are_no_steps(self):
        one = Bundle("b", [(0, 0, 0)], [(0, 0, 2)])
        self.assertFalse(self.told([((0, 0, 0), (0, 0, 2))], one))
        self.assertFalse(self.told([((0, 0, 0), (0, 1, 1)), ((0, 1, 1), (0, 0, 2))], one))
        self.assertFalse(self.told(self.wiring + [((1, 0, 0), (1, 0, 0))]))
        rocky = Bundle("b", [(0, 3, 2)], [(0, 3, 4)])
        self.assertFalse(self.told(line(3, 2, 4), rocky))
        self.assertFalse(self.told(turned(line(3, 2, 4)), rocky))

    def test_pairs_outside_are_no_steps_and_nothing_is_refused(self):
        cases = [((0, 0, 0), (0, 0, -1)), ((0, 3, 0), (0, 4, 0)), ((1, 0, 0), (2, 0, 0)), ((5, 5, 5), (5, 5, 6))]
        for start, goal in cases:
            one = Bundle("b", [start], [goal])
            self.assertFalse(self.told([(start, goal)], one))
            self.assertFalse(self.told([(goal, start)], one))
        self.assertFalse(self.told(self.wiring + [((0, 0, 5), (0, 0, 6))]))

    def test_a_step_twice_or_turned_round(self):
        for step in self.wiring:
            self.assertFalse(self.told(self.wiring + [step]))
            self.assertFalse(self.told([(step[1], step[0])] + self.wiring))
        one = Bundle("b", [(0, 0, 0)], [(0, 0, 1)])
        self.assertFalse(self.told(line(0, 0, 1) * 2, one))
        self.assertFalse(self.told(line(0, 0, 1) + turned(line(0, 0, 1)), one))

    def test_a_spot_on_three_steps(self):
        one = Bundle("b", [(0, 0, 0)], [(0, 0, 2), (0, 1, 1)])
        self.assertTrue(self.told(line(0, 0, 2), one))
        self.assertFalse(self.told(line(0, 0, 2) + [((0, 0, 1), (0, 1, 1))], one))

    def test_a_crossing_of_two_ways(self):
        crossed = Bundle("b", [(0, 1, 0), (0, 0, 1)], [(0, 1, 2), (0, 2, 1)])
        down = [((0, 0, 1), (0, 1, 1)), ((0, 1, 1), (0, 2, 1))]
        self.assertFalse(self.told(line(1, 0, 2) + down, crossed))

    def test_a_start_on_no_step_or_on_two(self):
        self.assertFalse(self.told(line(0, 0, 3)))
        self.assertFalse(self.told(line(1, 0, 3)))
        middle = Bundle("b", [(0, 0, 1)], [(0, 0, 0), (0, 0, 3)])
        self.assertFalse(self.told(line(0, 0, 3), middle))
        self.assertTrue(self.told(line(0, 0, 1), middle))
        through = Bundle("b", [(0, 0, 0), (0, 0, 1)], [(0, 0, 2), (0, 0, 3)])
        self.assertFalse(self.told(line(0, 0, 2), through))

    def test_a_goal_on_two_steps(self):
        passed = Bundle("b", [(0, 0, 0)], [(0, 0, 2), (0, 0, 3)])
        self.assertTrue(self.told(line(0, 0, 2), passed))
        self.assertFalse(self.told(line(0, 0, 3), passed))

    def test_a_way_that_ends_at_no_goal(self):
        self.assertFalse(self.told(line(0, 0, 2) + line(1, 0, 3)))
        self.assertFalse(self.told(line(0, 0, 3) + line(1, 0, 2)))
        self.assertFalse(self.told(line(0, 0, 4) + line(1, 0, 3)))

    def test_a_way_between_two_starts(self):
        one = Bundle("b", [(0, 0, 0), (0, 0, 3)], [(0, 2, 0), (0, 2, 3)])
        self.assertFalse(self.told(line(0, 0, 3), one))
        self.assertFalse(self.told(line(0, 0, 3) + line(2, 0, 3), one))

    def test_a_step_on_no_starts_way(self):
        self.assertFalse(self.told(self.wiring + line(3, 0, 1)))
        self.assertFalse(self.told(self.wiring + line(2, 3, 4)))
        many = Bundle("b", [(0, 0, 0)], [(0, 0, 3), (0, 2, 0), (0, 2, 3)])
        self.assertFalse(self.told(line(0, 0, 3) + line(2, 0, 3), many))

    def test_a_ring_beside_the_ways(self):
        ring = [((1, 0, 0), (1, 0, 1)), ((1, 0, 1), (1, 1, 1)), ((1, 1, 1), (1, 1, 0)), ((1, 1, 0), (1, 0, 0))]
        self.assertFalse(self.told(self.wiring + ring))


class EveryWiring(unittest.TestCase):
    def check(self, floor, things, slow):
        sound = 0
        for wiring in subsets(steps_in(floor)):
            for thing in things:
                told = thing.sound(floor, wiring)
                self.assertIs(told, slow(thing, wiring), (thing.ends(), wiring))
                sound += told
        self.assertGreater(sound, 0)

    def test_nets(self):
        cube, flat = plain_floor((2, 2, 2)), plain_floor((1, 3, 3))
        self.check(cube, [Net("n", [(0, 0, 0), (1, 1, 1)]), Net("n", [(0, 0, 1), (0, 1, 0), (1, 0, 0)])], slow_net)
        four = [(0, 0, 0), (0, 0, 2), (0, 1, 1), (0, 2, 1)]
        self.check(flat, [Net("n", [(0, 2, 2), (0, 0, 0)]), Net("n", four)], slow_net)

    def test_bundles(self):
        cube, flat = plain_floor((2, 2, 2)), plain_floor((1, 3, 3))
        self.check(cube, [Bundle("b", [(0, 0, 0), (0, 1, 1)], [(1, 0, 1), (1, 1, 0), (1, 1, 1)])], slow_bundle)
        self.check(flat, [
            Bundle("b", [(0, 2, 0)], [(0, 2, 2)]),
            Bundle("b", [(0, 0, 0), (0, 2, 0)], [(0, 2, 2), (0, 0, 2)]),
            Bundle("b", [(0, 1, 1), (0, 0, 0)], [(0, 2, 2), (0, 1, 2), (0, 2, 0)]),
        ], slow_bundle)


class Copies(unittest.TestCase):
    def test_the_wiring_is_not_changed_and_nothing_of_it_is_kept(self):
        floor = plain_floor((1, 2, 4))
        for thing in (Net("n", [(0, 0, 0), (0, 0, 3)]), Bundle("b", [(0, 0, 0)], [(0, 0, 3)])):
            wiring = line(0, 0, 3)[::-1]
            self.assertIs(thing.sound(floor, wiring), True)
            self.assertEqual(wiring, line(0, 0, 3)[::-1])
            wiring.pop()
            self.assertIs(thing.sound(floor, wiring), False)
            self.assertIs(thing.sound(floor, line(0, 0, 3)), True)

    def test_one_thing_on_two_floors(self):
        net = Net("n", [(0, 0, 0), (0, 0, 3)])
        self.assertIs(net.sound(plain_floor((1, 2, 4)), line(0, 0, 3)), True)
        self.assertIs(net.sound(plain_floor((1, 2, 4), [(0, 0, 1)]), line(0, 0, 3)), False)
        self.assertIs(net.sound(plain_floor((1, 2, 3)), line(0, 0, 3)), False)
        self.assertIs(net.sound(floor=plain_floor((1, 2, 4)), wiring=line(0, 0, 3)), True)
