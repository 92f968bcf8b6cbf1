"""[4.5]: papers, and when a shore's paper holds."""

import random
import unittest

from tests.helpers import free_of, plain_floor, random_floor, random_thing, slow_far_over, spots_in, steps_over
from wirefloor.papers import Paper, ShorePaper
from wirefloor.things import Bundle, Net


def slow_holds(spots, floor, free, thing):
    """By the words of 4.5."""
    spots = list(spots)
    if spots != sorted(set(spots)):
        return False
    if any(spot not in free or floor.is_rock(spot) for spot in spots):
        return False
    if any(one in spots and two not in spots for one, two, _ in steps_over(floor, free)):
        return False
    if isinstance(thing, Net):
        among = [pin in spots for pin in thing.pins]
        return any(among) and not all(among)
    return sum(start in spots for start in thing.starts) > sum(goal in spots for goal in thing.goals)


class Plain(unittest.TestCase):
    def test_it_holds_nowhere_and_lays_nothing(self):
        floor = plain_floor((1, 1, 3), [(0, 0, 1)])
        paper = Paper()
        self.assertIs(paper.is_laid(), False)
        for thing in (Net("n", [(0, 0, 0), (0, 0, 2)]), Bundle("b", [(0, 0, 0)], [(0, 0, 2)])):
            for free in ({}, free_of(spots_in((1, 1, 3)))):
                self.assertIs(paper.holds(floor, free, thing), False)
                self.assertIs(paper.holds(floor=floor, free=free, thing=thing), False)


class Shores(unittest.TestCase):
    def setUp(self):
        # Row 1 is shut: a rock, two spots that are not free, and a rock that is told free.
        self.floor = plain_floor((1, 3, 4), [(0, 1, 0), (0, 1, 3)])
        self.free = free_of([spot for spot in spots_in((1, 3, 4)) if spot not in ((0, 1, 0), (0, 1, 1), (0, 1, 2))])
        self.net = Net("n", [(0, 0, 0), (0, 0, 3), (0, 2, 0)])
        self.spots = [(0, 0, 0), (0, 0, 1), (0, 0, 2), (0, 0, 3)]

    def told(self, spots, thing=None, free=None, floor=None):
        thing = self.net if thing is None else thing
        free = self.free if free is None else free
        floor = self.floor if floor is None else floor
        kept = list(free.items())
        told = ShorePaper(spots).holds(floor, free, thing)
        self.assertEqual(list(free.items()), kept)
        self.assertIsInstance(told, bool)
        self.assertEqual(told, slow_holds(spots, floor, free, thing))
        return told

    def test_as_it_should_be(self):
        self.assertTrue(self.told(self.spots))
        self.assertTrue(self.told([(0, 2, column) for column in range(4)]))
        self.assertTrue(self.told(self.spots, free=free_of(reversed(list(self.free)))))

    def test_values(self):
        paper = ShorePaper(self.spots)
        self.assertEqual(paper.spots, tuple(self.spots))
        self.assertIsInstance(paper.spots, tuple)
        self.assertIs(paper.is_laid(), False)
        self.assertIsInstance(paper, Paper)
        self.assertEqual(ShorePaper(spots=[(9, 9, 9), (0, 0, 0), (9, 9, 9)]).spots, ((9, 9, 9), (0, 0, 0), (9, 9, 9)))
        self.assertEqual(ShorePaper([]).spots, ())

    def test_the_list_changed_behind(self):
        spots = list(self.spots)
        paper = ShorePaper(spots)
        spots.pop()
        spots[0] = (9, 9, 9)
        self.assertEqual(paper.spots, tuple(self.spots))
        self.assertTrue(paper.holds(self.floor, self.free, self.net))

    def test_one_left_out(self):
        for spot in self.spots:
            self.assertFalse(self.told([other for other in self.spots if other != spot]))

    def test_one_put_in(self):
        for spot in ((0, 1, 0), (0, 1, 1), (0, 1, 3), (0, 2, 1), (-1, 0, 0), (0, 0, 4), (0, 3, 0), (1, 0, 0),
                     (0, 0, -1), (9, 9, 9)):
            self.assertFalse(self.told(sorted(self.spots + [spot])), spot)

    def test_two_exchanged(self):
        for place in range(3):
            spots = list(self.spots)
            spots[place], spots[place + 1] = spots[place + 1], spots[place]
            self.assertFalse(self.told(spots))
        self.assertFalse(self.told(self.spots[::-1]))

    def test_one_twice(self):
        for place in range(4):
            self.assertFalse(self.told(self.spots[:place + 1] + self.spots[place:]))

    def test_all_spots_and_none(self):
        self.assertFalse(self.told([]))
        self.assertFalse(self.told(list(self.free)))
        self.assertFalse(self.told([spot for spot in self.free if not self.floor.is_rock(spot)]))
        self.assertFalse(self.told(spots_in((1, 3, 4))))
        self.assertFalse(self.told([], thing=Bundle("b", [(0, 0, 0)], [(0, 2, 0)])))

    def test_over_other_free_spots(self):
        for spot in ((0, 1, 1), (0, 1, 2)):
            self.assertFalse(self.told(self.spots, free=self.free | {spot: True}))
        self.assertTrue(self.told(self.spots, free=self.free | {(0, 1, 0): True}))
        for spot in self.spots:
            self.assertFalse(self.told(self.spots, free=free_of([one for one in self.free if one != spot])))
        self.assertFalse(self.told(self.spots, free={}))
        self.assertFalse(self.told(self.spots, floor=plain_floor((1, 3, 4))))

    def test_for_other_nets(self):
        self.assertFalse(self.told(self.spots, thing=Net("n", [(0, 0, 0), (0, 0, 3)])))
        self.assertFalse(self.told(self.spots, thing=Net("n", [(0, 2, 0), (0, 2, 3)])))
        self.assertTrue(self.told(self.spots, thing=Net("n", [(0, 2, 0), (0, 0, 3)])))
        self.assertTrue(self.told(self.spots, thing=Net("n", [(0, 0, 0), (9, 9, 9)], 2, 3)))

    def test_for_bundles(self):
        holds = [([(0, 0, 0)], [(0, 2, 0)]), ([(0, 0, 0), (0, 0, 1)], [(0, 0, 3), (0, 2, 1), (0, 2, 2)]),
                 ([(0, 0, 0), (0, 2, 3)], [(0, 2, 0), (0, 2, 1)])]
        fails = [([(0, 0, 0)], [(0, 0, 1)]), ([(0, 2, 0)], [(0, 0, 1)]), ([(0, 2, 0)], [(0, 2, 1)]),
                 ([(0, 0, 0), (0, 2, 0)], [(0, 0, 1), (0, 2, 1)]), ([(0, 0, 0), (0, 0, 1)], [(0, 0, 2), (0, 0, 3)])]
        for starts, goals in holds:
            self.assertTrue(self.told(self.spots, thing=Bundle("b", starts, goals)))
        for starts, goals in fails:
            self.assertFalse(self.told(self.spots, thing=Bundle("b", starts, goals)))

    def test_by_the_words(self):
        chance = random.Random(12)
        holding = 0
        for _ in range(300):
            sizes = (chance.randint(1, 2), chance.randint(2, 4), chance.randint(2, 4))
            floor = random_floor(chance, sizes, 0.4)
            if len(floor.open_spots()) < 2:
                continue
            thing = random_thing(chance, floor, "t", 0.5)
            free = free_of([spot for spot in spots_in(sizes) if chance.random() < 0.8])
            starts = [spot for spot in thing.ends()[:1] if spot in free]
            spots = sorted(slow_far_over(floor, free, starts))
            if chance.random() < 0.4:
                spots = sorted(set(spots) ^ {chance.choice(spots_in(sizes))})
            holding += self.told(spots, thing, free, floor)
        self.assertGreater(holding, 20)
