"""[1.3], [1.4], [1.5], and of [0.3] what the floor keeps and tells."""

import unittest

from tests.helpers import MOST, plain_floor, prices_for, slow_price, spots_in, vias_for
from wirefloor.errors import BadPrice, BadSize, NotAStep, OutOfFloor
from wirefloor.floor import Floor

OUTSIDE = [(-1, 0, 0), (0, -1, 0), (0, 0, -1), (2, 0, 0), (0, 3, 0), (0, 0, 4), (10 ** 18, 0, 0), (0, 0, -10 ** 18)]


class Sizes(unittest.TestCase):
    def test_each_bound_at_its_edges(self):
        for place, most in ((0, 4), (1, 16), (2, 16)):
            for size in range(1, most + 1):
                sizes = [2, 3, 3]
                sizes[place] = size
                self.assertEqual(plain_floor(tuple(sizes)).sizes, tuple(sizes))
            for size in (-1, 0, most + 1, most + 2, 10 ** 18):
                sizes = [2, 3, 3]
                sizes[place] = size
                layers = sizes[0] if 0 <= sizes[0] < 9 else 2
                with self.assertRaises(BadSize):
                    Floor(tuple(sizes), prices_for(layers), vias_for(layers))

    def test_the_least_and_the_greatest_floor(self):
        self.assertEqual(plain_floor((1, 1, 1)).open_spots(), [(0, 0, 0)])
        self.assertEqual(plain_floor((4, 16, 16)).open_spots(), spots_in((4, 16, 16)))

    def test_as_many_pairs_of_prices_as_layers(self):
        for layers in range(1, 5):
            for many in range(0, 7):
                error = None
                try:
                    Floor((layers, 2, 2), prices_for(many), vias_for(layers))
                except BadSize as caught:
                    error = caught
                self.assertEqual(error is None, many == layers, (layers, many))

    def test_one_via_fewer_than_layers(self):
        for layers in range(1, 5):
            for many in range(0, 7):
                error = None
                try:
                    Floor((layers, 2, 2), prices_for(layers), vias_for(many + 1))
                except BadSize as caught:
                    error = caught
                self.assertEqual(error is None, many == layers - 1, (layers, many))


class Prices(unittest.TestCase):
    def test_layer_prices_at_their_edges(self):
        for layer in range(3):
            for place in range(2):
                for price in (1, 2, MOST - 1, MOST):
                    prices = [[5, 6], [7, 8], [9, 10]]
                    prices[layer][place] = price
                    pairs = [tuple(pair) for pair in prices]
                    self.assertEqual(Floor((3, 2, 2), pairs, [3, 4]).layer_prices(), pairs)
                for price in (-MOST, -1, 0, MOST + 1, 10 ** 18):
                    prices = [[5, 6], [7, 8], [9, 10]]
                    prices[layer][place] = price
                    with self.assertRaises(BadPrice):
                        Floor((3, 2, 2), [tuple(pair) for pair in prices], [3, 4])

    def test_via_prices_at_their_edges(self):
        for place in range(2):
            for price in (1, 2, MOST - 1, MOST):
                vias = [3, 4]
                vias[place] = price
                self.assertEqual(Floor((3, 2, 2), prices_for(3), vias).via_prices(), vias)
            for price in (-MOST, -1, 0, MOST + 1, 10 ** 18):
                vias = [3, 4]
                vias[place] = price
                with self.assertRaises(BadPrice):
                    Floor((3, 2, 2), prices_for(3), vias)

    def test_tolls_at_their_edges(self):
        for toll in (0, 1, MOST - 1, MOST):
            floor = plain_floor((2, 3, 4), None, {(0, 0, 0): 4, (1, 2, 3): toll})
            self.assertEqual(floor.toll_of((1, 2, 3)), toll)
        for toll in (-MOST, -1, MOST + 1, 10 ** 18):
            with self.assertRaises(BadPrice):
                plain_floor((2, 3, 4), None, {(0, 0, 0): 4, (1, 2, 3): toll})
            with self.assertRaises(BadPrice):
                plain_floor((2, 3, 4), None, {(1, 2, 3): toll, (0, 0, 0): 4})

    def test_a_toll_on_a_rock_is_bounded_too(self):
        with self.assertRaises(BadPrice):
            plain_floor((2, 3, 4), [(0, 0, 0)], {(0, 0, 0): MOST + 1})


class Outside(unittest.TestCase):
    def test_rocks_outside(self):
        for spot in OUTSIDE:
            with self.assertRaises(OutOfFloor):
                plain_floor((2, 3, 4), [(0, 0, 0), spot])
            with self.assertRaises(OutOfFloor):
                plain_floor((2, 3, 4), [spot, (0, 0, 0)])

    def test_tolls_outside(self):
        for spot in OUTSIDE:
            for toll in (0, 1):
                with self.assertRaises(OutOfFloor):
                    plain_floor((2, 3, 4), None, {(0, 0, 0): 1, spot: toll})
                with self.assertRaises(OutOfFloor):
                    plain_floor((2, 3, 4), [(0, 0, 0)], {spot: toll, (0, 0, 0): 1})

    def test_the_last_spots_inside_are_not_refused(self):
        for spot in ((1, 2, 3), (0, 0, 0), (1, 0, 0), (0, 2, 0), (0, 0, 3)):
            floor = plain_floor((2, 3, 4), [spot], {spot: 3})
            self.assertIs(floor.is_rock(spot), True)
            self.assertEqual(floor.toll_of(spot), 3)


class Order(unittest.TestCase):
    def test_bad_size_goes_ahead_of_all(self):
        bad_prices = [(0, 1), (1, 1)]
        outside = [(9, 9, 9)]
        for sizes, prices, vias in (
            ((2, 0, 2), bad_prices, [0]),
            ((2, 2, 17), bad_prices, [0]),
            ((5, 2, 2), bad_prices, [0]),
            ((2, 2, 2), bad_prices + [(0, 0)], [0]),
            ((2, 2, 2), [(0, 0)], [0]),
            ((2, 2, 2), bad_prices, [0, 0]),
            ((2, 2, 2), bad_prices, []),
        ):
            with self.assertRaises(BadSize):
                Floor(sizes, prices, vias, outside, {(9, 9, 9): -1})

    def test_bad_size_where_one_via_is_too_many(self):
        with self.assertRaises(BadSize):
            Floor((2, 2, 2), [(1, 1), (1, 1)], [1, 0], None, None)
        with self.assertRaises(BadSize):
            Floor((1, 2, 2), [(1, 1)], [1], [(4, 4, 4)])

    def test_bad_price_goes_ahead_of_out_of_floor(self):
        good = [(1, 1), (1, 1)]
        outside = [(2, 0, 0)]
        for prices, vias, tolls in (
            ([(0, 1), (1, 1)], [1], {}),
            ([(1, 1), (1, MOST + 1)], [1], {}),
            (good, [0], {}),
            (good, [1], {(0, 0, 0): -1}),
            (good, [1], {(0, 0, 2): 5, (0, 0, 0): MOST + 1}),
            (good, [1], {(0, 0, 2): -1}),
        ):
            with self.assertRaises(BadPrice):
                Floor((2, 2, 2), prices, vias, outside, tolls)
        with self.assertRaises(OutOfFloor):
            Floor((2, 2, 2), good, [1], outside, {(0, 0, 2): 5})


class Told(unittest.TestCase):
    def test_nothing_told_of_rocks_and_tolls(self):
        for floor in (
            Floor((2, 1, 2), prices_for(2), vias_for(2)),
            Floor((2, 1, 2), prices_for(2), vias_for(2), None, None),
            Floor((2, 1, 2), prices_for(2), vias_for(2), [], {}),
            Floor((2, 1, 2), prices_for(2), vias_for(2), rocks=None),
            Floor((2, 1, 2), prices_for(2), vias_for(2), tolls=None),
        ):
            self.assertEqual(floor.rocks_told(), [])
            self.assertEqual(floor.tolls_told(), [])
            self.assertEqual(floor.open_spots(), spots_in((2, 1, 2)))

    def test_named_arguments(self):
        floor = Floor(sizes=(1, 1, 3), prices=[(1, 2)], vias=[], rocks=[(0, 0, 2)], tolls={(0, 0, 0): 5})
        self.assertEqual(floor.steps(spot=(0, 0, 0)), [((0, 0, 1), 6)])
        self.assertIs(floor.is_rock(spot=(0, 0, 2)), True)
        self.assertEqual(floor.toll_of(spot=(0, 0, 0)), 5)
        self.assertEqual(floor.step_price(one=(0, 0, 0), two=(0, 0, 1)), 6)
        self.assertEqual(floor.way_price(way=[(0, 0, 0), (0, 0, 1)]), 6)

    def test_rocks_are_told_once_and_in_order(self):
        rocks = [(1, 2, 0), (0, 2, 3), (1, 0, 3), (0, 2, 3), (0, 0, 1), (1, 2, 0), (0, 2, 3)]
        floor = plain_floor((2, 3, 4), rocks)
        self.assertEqual(floor.rocks_told(), [(0, 0, 1), (0, 2, 3), (1, 0, 3), (1, 2, 0)])
        once = plain_floor((2, 3, 4), sorted(set(rocks)))
        for spot in spots_in((2, 3, 4)):
            self.assertIs(floor.is_rock(spot), spot in rocks)
            self.assertEqual(floor.steps(spot), once.steps(spot))
        self.assertEqual(floor.open_spots(), once.open_spots())

    def test_tolls_that_are_not_nought_are_told_in_order(self):
        tolls = {(1, 2, 0): 7, (0, 2, 3): 0, (1, 0, 3): 1, (0, 2, 2): MOST}
        floor = plain_floor((2, 3, 4), None, tolls)
        self.assertEqual(floor.tolls_told(), [((0, 2, 2), MOST), ((1, 0, 3), 1), ((1, 2, 0), 7)])
        for spot in spots_in((2, 3, 4)):
            self.assertEqual(floor.toll_of(spot), tolls.get(spot, 0))

    def test_a_toll_on_a_rock_is_kept_and_says_nothing_else(self):
        floor = plain_floor((1, 1, 4), [(0, 0, 1)], {(0, 0, 1): 9, (0, 0, 3): 2})
        self.assertEqual(floor.toll_of((0, 0, 1)), 9)
        self.assertEqual(floor.tolls_told(), [((0, 0, 1), 9), ((0, 0, 3), 2)])
        self.assertIs(floor.is_rock((0, 0, 1)), True)
        self.assertEqual(floor.rocks_told(), [(0, 0, 1)])
        self.assertEqual(floor.steps((0, 0, 1)), [])
        self.assertEqual(floor.steps((0, 0, 0)), [])
        self.assertEqual(floor.steps((0, 0, 2)), [((0, 0, 3), 12)])

    def test_open_spots_in_order(self):
        floor = plain_floor((2, 2, 2), [(1, 0, 0), (0, 1, 1)], {(0, 0, 0): 3})
        self.assertEqual(
            floor.open_spots(), [(0, 0, 0), (0, 0, 1), (0, 1, 0), (1, 0, 1), (1, 1, 0), (1, 1, 1)])
        self.assertEqual(plain_floor((1, 1, 2), [(0, 0, 0), (0, 0, 1)]).open_spots(), [])

    def test_prices_are_told_as_they_were_told(self):
        floor = Floor((3, 2, 2), [(3, 4), (1, 2), (6, 5)], [9, 8])
        self.assertEqual(floor.layer_prices(), [(3, 4), (1, 2), (6, 5)])
        self.assertEqual(floor.via_prices(), [9, 8])
        for pair in floor.layer_prices():
            self.assertIsInstance(pair, tuple)

    def test_spots_outside_are_refused(self):
        floor = plain_floor((2, 3, 4), [(0, 0, 0)], {(1, 1, 1): 3})
        for spot in OUTSIDE:
            for asked in (floor.is_rock, floor.toll_of, floor.steps):
                with self.assertRaises(OutOfFloor):
                    asked(spot)


class Steps(unittest.TestCase):
    def test_every_pair_of_spots(self):
        cases = [
            ((1, 1, 1), [], {}),
            ((2, 3, 4), [], {}),
            ((3, 3, 3), [(1, 1, 1), (0, 0, 2)], {(1, 1, 1): 5, (0, 0, 0): 7, (0, 0, 1): 90000, (1, 0, 0): 300000}),
            ((4, 2, 2), [(2, 1, 1)], {(3, 0, 0): MOST, (2, 0, 0): 1, (0, 0, 0): 0}),
        ]
        for sizes, rocks, tolls in cases:
            prices, vias = prices_for(sizes[0]), vias_for(sizes[0])
            floor = Floor(sizes, prices, vias, rocks, tolls)
            for one in spots_in(sizes):
                told = []
                for two in spots_in(sizes):
                    price = slow_price(prices, vias, rocks, tolls, one, two)
                    if price is None:
                        with self.assertRaises(NotAStep):
                            floor.step_price(one, two)
                    else:
                        told.append((two, price))
                        self.assertEqual(floor.step_price(one, two), price)
                        self.assertEqual(floor.step_price(two, one), price)
                self.assertEqual(floor.steps(one), told)

    def test_the_three_ways_by_hand(self):
        floor = Floor((3, 3, 3), [(1, 2), (3, 4), (5, 6)], [70, 80])
        self.assertEqual(floor.steps((1, 1, 1)), [
            ((0, 1, 1), 70), ((1, 0, 1), 4), ((1, 1, 0), 3), ((1, 1, 2), 3), ((1, 2, 1), 4), ((2, 1, 1), 80)])
        self.assertEqual(floor.steps((0, 0, 0)), [((0, 0, 1), 1), ((0, 1, 0), 2), ((1, 0, 0), 70)])
        self.assertEqual(floor.steps((2, 2, 2)), [((1, 2, 2), 80), ((2, 1, 2), 6), ((2, 2, 1), 5)])

    def test_tolls_of_both_ends(self):
        floor = Floor((2, 2, 2), [(1, 2), (3, 4)], [70], [], {(0, 0, 0): 100, (0, 0, 1): 1000, (1, 0, 0): 10000})
        self.assertEqual(floor.step_price((0, 0, 0), (0, 0, 1)), 1101)
        self.assertEqual(floor.step_price((0, 0, 1), (0, 0, 0)), 1101)
        self.assertEqual(floor.step_price((0, 0, 0), (0, 1, 0)), 102)
        self.assertEqual(floor.step_price((1, 0, 0), (0, 0, 0)), 10170)
        self.assertEqual(floor.step_price((0, 0, 0), (1, 0, 0)), 10170)
        self.assertEqual(floor.step_price((0, 1, 1), (1, 1, 1)), 70)

    def test_the_greatest_prices(self):
        floor = Floor((1, 1, 2), [(MOST, MOST)], [], None, {(0, 0, 0): MOST, (0, 0, 1): MOST})
        self.assertEqual(floor.step_price((0, 0, 0), (0, 0, 1)), 3 * MOST)

    def test_rows_do_not_run_over_into_the_next(self):
        floor = plain_floor((2, 2, 2))
        for one, two in (((0, 0, 1), (0, 1, 0)), ((0, 1, 1), (1, 0, 0)), ((0, 0, 0), (0, 0, 0))):
            with self.assertRaises(NotAStep):
                floor.step_price(one, two)
            with self.assertRaises(NotAStep):
                floor.step_price(two, one)

    def test_none_from_or_to_a_rock(self):
        floor = plain_floor((1, 1, 3), [(0, 0, 1)])
        self.assertEqual(floor.steps((0, 0, 1)), [])
        self.assertEqual(floor.steps((0, 0, 0)), [])
        for one, two in (((0, 0, 0), (0, 0, 1)), ((0, 0, 1), (0, 0, 2)), ((0, 0, 1), (0, 0, 1))):
            with self.assertRaises(NotAStep):
                floor.step_price(one, two)
            with self.assertRaises(NotAStep):
                floor.step_price(two, one)

    def test_out_of_floor_goes_ahead_of_not_a_step(self):
        floor = plain_floor((2, 3, 4), [(0, 0, 0)])
        for spot in OUTSIDE:
            for other in ((0, 0, 0), (0, 1, 1), (1, 2, 3), (0, 0, 3), (0, 2, 0), spot):
                with self.assertRaises(OutOfFloor):
                    floor.step_price(spot, other)
                with self.assertRaises(OutOfFloor):
                    floor.step_price(other, spot)


class Ways(unittest.TestCase):
    def test_the_sum_of_the_steps(self):
        floor = Floor((2, 2, 3), [(1, 20), (300, 4000)], [50000], [], {(0, 0, 1): 100000})
        way = [(0, 0, 0), (0, 0, 1), (0, 1, 1), (1, 1, 1), (1, 1, 2), (1, 0, 2)]
        self.assertEqual(floor.way_price(way), 1 + 100000 + 20 + 100000 + 50000 + 300 + 4000)
        self.assertEqual(floor.way_price(list(reversed(way))), floor.way_price(way))
        self.assertEqual(floor.way_price([(0, 0, 0), (0, 0, 1), (0, 0, 0)]), 2 * 100001)
        self.assertEqual(floor.way_price(way[:2]), 100001)

    def test_one_spot_is_not_looked_at(self):
        floor = plain_floor((1, 2, 2), [(0, 0, 0)], {(0, 1, 1): 5})
        for spot in ((0, 1, 1), (0, 0, 0), (0, 5, 5), (-1, 0, 0)):
            self.assertEqual(floor.way_price([spot]), 0)

    def test_the_first_refused_step_says_how(self):
        floor = plain_floor((1, 2, 3), [(0, 1, 0)])
        good, far, rock, outside = [(0, 0, 0), (0, 0, 1)], (0, 1, 2), (0, 1, 0), (0, 0, 3)
        cases = [
            (good + [far, outside], NotAStep),
            (good + [(0, 0, 2), outside, rock], OutOfFloor),
            ([(0, 0, 0), rock, outside], NotAStep),
            ([outside, (0, 0, 2), rock], OutOfFloor),
            ([rock, outside], OutOfFloor),
            ([(0, 0, 0), (0, 0, 0), outside], NotAStep),
            ([(0, 0, 2), (0, 0, 3)], OutOfFloor),
            ([(0, 0, 0), (0, 0, 1), (0, 0, 1)], NotAStep),
        ]
        for way, kind in cases:
            with self.assertRaises(kind):
                floor.way_price(way)


class Copies(unittest.TestCase):
    def handed_in(self):
        return (2, 2, 3), [(1, 2), (3, 4)], [5], [(1, 1, 1), (0, 0, 2), (1, 1, 1)], {(0, 1, 0): 6, (0, 0, 0): 0}

    def all_told(self, floor):
        spots = spots_in((2, 2, 3))
        return [
            floor.sizes, floor.layer_prices(), floor.via_prices(), floor.rocks_told(), floor.tolls_told(),
            floor.open_spots(), [floor.is_rock(spot) for spot in spots], [floor.toll_of(spot) for spot in spots],
            [floor.steps(spot) for spot in spots], floor.way_price([(0, 0, 0), (0, 1, 0), (1, 1, 0), (1, 0, 0)]),
        ]

    def test_what_is_handed_in_is_not_changed(self):
        sizes, prices, vias, rocks, tolls = self.handed_in()
        floor = Floor(sizes, prices, vias, rocks, tolls)
        self.all_told(floor)
        way = [(0, 0, 0), (0, 1, 0)]
        floor.way_price(way)
        self.assertEqual(way, [(0, 0, 0), (0, 1, 0)])
        self.assertEqual((sizes, prices, vias, rocks, tolls), self.handed_in())
        self.assertEqual(list(tolls), [(0, 1, 0), (0, 0, 0)])

    def test_changing_it_behind_the_call_changes_nothing(self):
        sizes, prices, vias, rocks, tolls = self.handed_in()
        floor = Floor(sizes, prices, vias, rocks, tolls)
        before = self.all_told(Floor(*self.handed_in()))
        prices[0] = (700, 700)
        prices.append((8, 8))
        vias[0] = 900
        vias.append(3)
        rocks[0] = (0, 0, 0)
        rocks.append((0, 1, 0))
        tolls[(0, 1, 0)] = 1000
        tolls[(1, 0, 0)] = 1000
        self.assertEqual(self.all_told(floor), before)
        prices.clear()
        vias.clear()
        rocks.clear()
        tolls.clear()
        self.assertEqual(self.all_told(floor), before)

    def test_changing_what_was_told_changes_nothing(self):
        floor = Floor(*self.handed_in())
        before = self.all_told(Floor(*self.handed_in()))
        for told in (
            floor.layer_prices(), floor.via_prices(), floor.rocks_told(), floor.tolls_told(),
            floor.open_spots(), floor.steps((0, 0, 0)), floor.steps((1, 1, 1)),
        ):
            self.assertIsInstance(told, list)
            told.append("other")
            self.assertEqual(self.all_told(floor), before)
            told.clear()
            self.assertEqual(self.all_told(floor), before)

    def test_two_floors_share_nothing(self):
        one = Floor((1, 1, 2), [(1, 1)], [])
        two = Floor((1, 1, 2), [(1, 1)], [], [(0, 0, 1)], {(0, 0, 0): 3})
        self.assertEqual(one.rocks_told(), [])
        self.assertEqual(one.tolls_told(), [])
        self.assertEqual(two.rocks_told(), [(0, 0, 1)])
        self.assertEqual(two.tolls_told(), [((0, 0, 0), 3)])
        self.assertEqual(Floor((1, 1, 2), [(1, 1)], []).open_spots(), [(0, 0, 0), (0, 0, 1)])
