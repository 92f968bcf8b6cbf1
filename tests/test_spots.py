"""[0.2], [1.1], [1.2]: spots inside, their numbers, how far apart, squares."""

import unittest

from tests.helpers import spots_in
from wirefloor.errors import OutOfFloor
from wirefloor.spots import apart, inside, number_of, spot_of, square

SIZES = [(1, 1, 1), (2, 3, 4), (4, 1, 5), (3, 5, 1), (5, 2, 2), (1, 17, 3)]
GREAT = 10 ** 30


class Inside(unittest.TestCase):
    def test_each_number_at_its_edges(self):
        sizes = (2, 3, 4)
        for place in range(3):
            for number, told in ((-1, False), (0, True), (sizes[place] - 1, True), (sizes[place], False)):
                spot = [1, 1, 1]
                spot[place] = number
                self.assertIs(inside(sizes, tuple(spot)), told, spot)

    def test_every_spot_round_the_floor(self):
        for sizes in SIZES:
            within = spots_in(sizes)
            for shifted in spots_in([size + 4 for size in sizes]):
                spot = tuple([number - 2 for number in shifted])
                self.assertIs(inside(sizes, spot), spot in within, (sizes, spot))

    def test_any_greatness(self):
        sizes = (GREAT, GREAT + 5, GREAT * GREAT)
        self.assertIs(inside(sizes, (GREAT - 1, GREAT + 4, GREAT * GREAT - 1)), True)
        self.assertIs(inside(sizes, (GREAT, 0, 0)), False)
        self.assertIs(inside(sizes, (0, GREAT + 5, 0)), False)
        self.assertIs(inside(sizes, (0, 0, GREAT * GREAT)), False)
        self.assertIs(inside(sizes, (-GREAT, 0, 0)), False)

    def test_named_arguments(self):
        self.assertIs(inside(sizes=(1, 1, 1), spot=(0, 0, 0)), True)


class Numbers(unittest.TestCase):
    def test_numbered_from_nought_in_order(self):
        for sizes in SIZES:
            for number, spot in enumerate(spots_in(sizes)):
                self.assertEqual(number_of(sizes, spot), number)
                self.assertEqual(spot_of(sizes, number), spot)
                self.assertIsInstance(spot_of(sizes, number), tuple)

    def test_one_by_hand(self):
        self.assertEqual(number_of((2, 3, 4), (1, 2, 3)), 23)
        self.assertEqual(number_of((2, 3, 4), (1, 0, 2)), 14)
        self.assertEqual(spot_of((2, 3, 4), 14), (1, 0, 2))
        self.assertEqual(spot_of((2, 3, 4), 7), (0, 1, 3))

    def test_any_greatness(self):
        sizes = (GREAT, GREAT + 7, GREAT * 3)
        spot = (GREAT - 1, 12345, GREAT + 99)
        number = ((GREAT - 1) * (GREAT + 7) + 12345) * (GREAT * 3) + GREAT + 99
        self.assertEqual(number_of(sizes, spot), number)
        self.assertEqual(spot_of(sizes, number), spot)
        last = GREAT * (GREAT + 7) * GREAT * 3 - 1
        self.assertEqual(spot_of(sizes, last), (GREAT - 1, GREAT + 6, GREAT * 3 - 1))
        with self.assertRaises(OutOfFloor):
            spot_of(sizes, last + 1)

    def test_spots_outside_are_refused(self):
        outside = [(-1, 0, 0), (0, -1, 0), (0, 0, -1), (2, 0, 0), (0, 3, 0), (0, 0, 4), (0, 0, GREAT), (0, -GREAT, 0)]
        for spot in outside:
            with self.assertRaises(OutOfFloor):
                number_of((2, 3, 4), spot)

    def test_numbers_of_no_spot_are_refused(self):
        for sizes in SIZES:
            many = sizes[0] * sizes[1] * sizes[2]
            for number in (-1, -many, -GREAT, many, many + 1, GREAT):
                with self.assertRaises(OutOfFloor):
                    spot_of(sizes, number)

    def test_named_arguments(self):
        self.assertEqual(number_of(sizes=(1, 2, 2), spot=(0, 1, 0)), 2)
        self.assertEqual(spot_of(sizes=(1, 2, 2), number=2), (0, 1, 0))


class Apart(unittest.TestCase):
    def test_the_greater_difference_either_way_round(self):
        cases = [
            ((0, 0, 0), (0, 0, 0), 0),
            ((0, 0, 0), (0, 0, 1), 1),
            ((0, 0, 0), (0, 1, 0), 1),
            ((0, 0, 0), (0, 1, 1), 1),
            ((2, 5, 1), (2, 1, 3), 4),
            ((2, 1, 1), (2, 3, 8), 7),
            ((1, 7, 2), (1, 3, 6), 4),
            ((0, -3, 2), (0, 4, -1), 7),
            ((0, 0, GREAT), (0, 1, -GREAT), 2 * GREAT),
        ]
        for one, two, far in cases:
            self.assertEqual(apart(one, two), far)
            self.assertEqual(apart(two, one), far)

    def test_unlike_layers_are_not_apart_by_a_number(self):
        self.assertIsNone(apart((0, 1, 1), (1, 1, 1)))
        self.assertIsNone(apart((3, 0, 5), (2, 9, 5)))
        self.assertIsNone(apart((-1, 0, 0), (1, 0, 0)))
        self.assertIsNone(apart((0, 0, 0), (GREAT, 0, 0)))

    def test_named_arguments(self):
        self.assertEqual(apart(one=(0, 0, 0), two=(0, 2, 1)), 2)


class Squares(unittest.TestCase):
    def slow(self, sizes, spot, reach):
        found = []
        for other in spots_in(sizes):
            if other[0] == spot[0] and abs(other[1] - spot[1]) <= reach and abs(other[2] - spot[2]) <= reach:
                found.append(other)
        return found

    def test_every_spot_and_reach_of_small_floors(self):
        for sizes in SIZES + [(2, 6, 7)]:
            for spot in spots_in(sizes):
                for reach in (0, 1, 2, 3, 5, 20):
                    self.assertEqual(square(sizes, spot, reach), self.slow(sizes, spot, reach), (sizes, spot, reach))

    def test_whole_and_cut_off(self):
        whole = [(1, row, column) for row in (2, 3, 4) for column in (4, 5, 6)]
        self.assertEqual(square((2, 8, 8), (1, 3, 5), 1), whole)
        self.assertEqual(square((2, 8, 8), (0, 0, 7), 1), [(0, 0, 6), (0, 0, 7), (0, 1, 6), (0, 1, 7)])
        self.assertEqual(square((2, 8, 8), (1, 3, 5), 0), [(1, 3, 5)])

    def test_reach_greater_than_the_floor(self):
        for reach in (4, 10 ** 6, GREAT):
            told = square((3, 2, 3), (2, 1, 0), reach)
            self.assertEqual(told, [(2, row, column) for row in range(2) for column in range(3)])

    def test_sizes_of_any_greatness(self):
        sizes = (GREAT, GREAT, GREAT)
        spot = (GREAT - 1, GREAT - 1, 10 ** 20)
        told = square(sizes, spot, 1)
        rows = (GREAT - 2, GREAT - 1)
        columns = (10 ** 20 - 1, 10 ** 20, 10 ** 20 + 1)
        self.assertEqual(told, [(GREAT - 1, row, column) for row in rows for column in columns])
        self.assertEqual(square((GREAT, 1, 2), (5, 0, 0), GREAT), [(5, 0, 0), (5, 0, 1)])

    def test_what_is_told_is_the_askers_own(self):
        told = square((1, 2, 2), (0, 0, 0), 1)
        kept = list(told)
        told.clear()
        self.assertEqual(square((1, 2, 2), (0, 0, 0), 1), kept)
        self.assertIsInstance(square((1, 2, 2), (0, 0, 0), 1), list)

    def test_named_arguments(self):
        self.assertEqual(square(sizes=(1, 1, 1), spot=(0, 0, 0), reach=0), [(0, 0, 0)])
