"""[6.5], [6.6]: gates and doors, the arcs beside ways that lie, and how a row of marks turns the ways."""

import random
import unittest

from tests.helpers import plain_floor, random_floor, spots_in
from wirefloor.split import door, gate, rerouted, split_arcs, spot_of_mark
from wirefloor.ways import arcs_in

A, B, C, D, E, F = [(0, 0, column) for column in range(6)]


def comes_of(ways):
    comes = {}
    for way in ways:
        comes[way[0]] = None
        comes.update(dict(zip(way[1:], way)))
    return comes


def ways_of(comes):
    """The ways that comes tells, each from its first spot on."""
    after = {}
    for spot, ahead in comes.items():
        if ahead is not None:
            if ahead in after:
                raise AssertionError("two spots come from one")
            after[ahead] = spot
    ways = []
    for first in [spot for spot in comes if comes[spot] is None]:
        way = [first]
        while way[-1] in after:
            way.append(after[way[-1]])
        ways.append(way)
    return sorted(ways)


class Marks(unittest.TestCase):
    def test_there_and_back(self):
        for spot in ((0, 0, 0), (3, 15, 7), (1, 0, 1)):
            self.assertEqual(gate(spot), (spot[0], spot[1], spot[2], 0))
            self.assertEqual(door(spot=spot), (spot[0], spot[1], spot[2], 1))
            self.assertEqual(spot_of_mark(gate(spot)), spot)
            self.assertEqual(spot_of_mark(mark=door(spot)), spot)


class Arcs(unittest.TestCase):
    def setUp(self):
        self.leads = {A: [(B, 2), (D, 9)], B: [(A, 2), (C, 3)], C: [(B, 3)], D: [(E, 1), (B, 4)], E: []}
        self.arcs = lambda spot: self.leads[spot]

    def test_no_ways(self):
        told = split_arcs(self.arcs, {})
        for spot in self.leads:
            self.assertEqual(told(gate(spot)), [(door(spot), 0)])
            self.assertEqual(told(door(spot)), [(gate(other), price) for other, price in self.leads[spot]])

    def test_beside_a_way(self):
        told = split_arcs(self.arcs, comes_of([[A, B, C]]))
        self.assertEqual(told(gate(A)), [])
        self.assertEqual(told(gate(B)), [(door(A), -2)])
        self.assertEqual(told(gate(C)), [(door(B), -3)])
        self.assertEqual(told(gate(D)), [(door(D), 0)])
        self.assertEqual(told(door(A)), [(gate(B), 2), (gate(D), 9), (gate(A), 0)])
        self.assertEqual(told(door(B)), [(gate(A), 2), (gate(C), 3), (gate(B), 0)])
        self.assertEqual(told(door(C)), [(gate(B), 3), (gate(C), 0)])
        self.assertEqual(told(door(D)), [(gate(E), 1), (gate(B), 4)])
        self.assertEqual(told(door(E)), [])

    def test_the_price_from_the_one_ahead(self):
        self.leads = {A: [(B, 2)], B: [(A, 7)]}
        self.assertEqual(split_arcs(self.arcs, comes_of([[A, B]]))(gate(B)), [(door(A), -2)])
        self.assertEqual(split_arcs(self.arcs, comes_of([[B, A]]))(gate(A)), [(door(B), -7)])

    def test_a_way_of_one_spot(self):
        told = split_arcs(self.arcs, {E: None})
        self.assertEqual(told(gate(E)), [])
        self.assertEqual(told(door(E)), [(gate(E), 0)])

    def test_in_the_order_that_arcs_tells(self):
        self.leads = {A: [(D, 1), (B, 1), (C, 1)]}
        told = split_arcs(arcs=self.arcs, comes={A: None})
        self.assertEqual(told(door(A)), [(gate(D), 1), (gate(B), 1), (gate(C), 1), (gate(A), 0)])

    def test_comes_changed_behind(self):
        comes = comes_of([[A, B, C]])
        told = split_arcs(self.arcs, comes)
        comes.clear()
        comes[D] = None
        self.assertEqual(told(gate(B)), [(door(A), -2)])
        self.assertEqual(told(gate(D)), [(door(D), 0)])
        self.assertEqual(told(door(C)), [(gate(B), 3), (gate(C), 0)])

    def test_what_is_handed_in_stays(self):
        comes = comes_of([[A, B, C]])
        told = split_arcs(self.arcs, comes)
        told(door(A)).clear()
        told(gate(B)).clear()
        self.assertEqual(comes, comes_of([[A, B, C]]))
        self.assertEqual(self.leads[A], [(B, 2), (D, 9)])
        self.assertEqual(told(door(A)), [(gate(B), 2), (gate(D), 9), (gate(A), 0)])

    def test_over_a_floor(self):
        floor = plain_floor((1, 2, 3), [], {(0, 0, 1): 5})
        arcs = arcs_in(floor, dict((spot, True) for spot in spots_in((1, 2, 3))))
        told = split_arcs(arcs, comes_of([[(0, 0, 0), (0, 0, 1), (0, 0, 2)]]))
        self.assertEqual(told((0, 0, 1, 0)), [((0, 0, 0, 1), -15)])
        self.assertEqual(told((0, 0, 1, 1)), [((0, 0, 0, 0), 15), ((0, 0, 2, 0), 15), ((0, 1, 1, 0), 18),
                                              ((0, 0, 1, 0), 0)])
        self.assertEqual(told((0, 1, 1, 0)), [((0, 1, 1, 1), 0)])


class Turned(unittest.TestCase):
    def test_the_first_way(self):
        marks = [gate(A), door(A), gate(B), door(B), gate(C), door(C)]
        self.assertEqual(rerouted({}, marks), {A: None, B: A, C: B})

    def test_one_spot_alone(self):
        self.assertEqual(rerouted({}, [gate(A), door(A)]), {A: None})

    def test_beside_another(self):
        comes = comes_of([[A, B, C]])
        told = rerouted(comes, [gate(D), door(D), gate(E), door(E)])
        self.assertEqual(ways_of(told), [[A, B, C], [D, E]])
        self.assertEqual(comes, comes_of([[A, B, C]]))

    def test_onto_a_way_and_off_it(self):
        # D comes to C, so that what came to C goes on to E from B.
        comes = comes_of([[A, B, C, F]])
        told = rerouted(comes, [gate(D), door(D), gate(C), door(B), gate(E), door(E)])
        self.assertEqual(ways_of(told), [[A, B, E], [D, C, F]])

    def test_a_spot_taken_off_its_way(self):
        # D comes to C; B is left, and A goes on to E.
        comes = comes_of([[A, B, C, F]])
        told = rerouted(comes, [gate(D), door(D), gate(C), door(B), gate(B), door(A), gate(E), door(E)])
        self.assertEqual(ways_of(told), [[A, E], [D, C, F]])
        self.assertNotIn(B, told)
        self.assertEqual(comes, comes_of([[A, B, C, F]]))

    def test_what_is_told_is_the_askers(self):
        comes = {A: None}
        told = rerouted(comes=comes, marks=[gate(B), door(B)])
        told.clear()
        self.assertEqual(comes, {A: None})

    def test_marks_stay(self):
        marks = [gate(B), door(B)]
        rerouted({A: None}, marks)
        self.assertEqual(marks, [gate(B), door(B)])

    def test_rows_by_chance(self):
        chance = random.Random(16)
        turned = 0
        for _ in range(400):
            floor = random_floor(chance, (chance.randint(1, 2), 3, 4), 0.1)
            arcs = arcs_in(floor, dict((spot, True) for spot in floor.open_spots()))
            comes = {}
            for _ in range(chance.randint(1, 5)):
                row = self.row_by_chance(chance, floor, arcs, comes)
                if row is None:
                    continue
                told = rerouted(comes, row)
                # Rows that aren't cheapest may leave rings beside the ways.
                self.assertEqual(len(ways_of(told)), len(ways_of(comes)) + 1)
                paid = sum(dict(split_arcs(arcs, comes)(one))[two] for one, two in zip(row, row[1:]))
                self.assertEqual(self.price_of(arcs, told) - self.price_of(arcs, comes), paid)
                comes = told
                turned += 1
        self.assertGreater(turned, 300)

    def price_of(self, arcs, comes):
        return sum(dict(arcs(ahead))[spot] for spot, ahead in comes.items() if ahead is not None)

    def row_by_chance(self, chance, floor, arcs, comes):
        """A row of marks from a gate on no way to a door of a spot on no way, or None."""
        leads = split_arcs(arcs, comes)
        spots = [spot for spot in floor.open_spots() if spot not in comes]
        if not spots:
            return None
        row = [gate(chance.choice(spots))]
        while len(row) < chance.randint(2, 20):
            onward = [mark for mark, _ in leads(row[-1]) if mark not in row]
            if not onward:
                break
            row.append(chance.choice(onward))
        while row and not (row[-1][3] == 1 and self.ends_a_way(row, comes)):
            row.pop()
        return row or None

    def ends_a_way(self, row, comes):
        # Told of the points: from the gate of a spot on no way to the door of a spot; here of one that the row came to.
        return len(row) > 1 and row[-2] == gate(spot_of_mark(row[-1]))
