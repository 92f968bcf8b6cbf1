"""[5.3]: what is pruned of a list of steps."""

import itertools
import random
import unittest

from tests.helpers import line
from wirefloor.trees import pruned

A, B, C, D, E, F = [(0, 0, column) for column in range(6)]


def hang(steps, one, two):
    found, grew = {one}, True
    while grew:
        more = {spot for step in steps if found & set(step) for spot in step}
        grew = not more <= found
        found |= more
    return two in found


def slow_pruned(steps, pins):
    """By the words, one step after the other."""
    kept = []
    for one, two in steps:
        if one != two and not hang(kept, one, two):
            kept.append((one, two))
    loose = True
    while loose:
        loose = [step for step in kept for spot in step
                 if spot not in pins and len([other for other in kept if spot in other]) == 1]
        if loose:
            kept.remove(loose[0])
    return sorted((min(step), max(step)) for step in kept)


class Pruned(unittest.TestCase):
    def told(self, steps, pins):
        kept, kept_pins = list(steps), list(pins)
        told = pruned(steps, pins)
        self.assertEqual((steps, pins), (kept, kept_pins))
        self.assertIsInstance(told, list)
        self.assertEqual(told, slow_pruned(steps, pins))
        self.assertEqual(pruned(steps, tuple(pins)), told)
        return told

    def test_no_steps(self):
        self.assertEqual(self.told([], []), [])
        self.assertEqual(self.told([], [A, B]), [])

    def test_in_order_and_the_lesser_spot_first(self):
        self.assertEqual(self.told([(C, B), (A, B)], [A, C]), [(A, B), (B, C)])
        self.assertEqual(self.told([(D, C), (C, B), (B, A)], [A, D]), [(A, B), (B, C), (C, D)])

    def test_steps_twice_and_turned_round(self):
        self.assertEqual(self.told([(A, B), (A, B), (B, A)], [A, B]), [(A, B)])
        self.assertEqual(self.told([(B, A), (A, B)], [A, B]), [(A, B)])

    def test_from_a_spot_to_itself(self):
        self.assertEqual(self.told([(A, A), (A, B), (B, B)], [A, B]), [(A, B)])
        self.assertEqual(self.told([(A, A)], [A]), [])

    def test_rings_lose_their_last_step(self):
        self.assertEqual(self.told([(A, B), (B, C), (C, A)], [A, B, C]), [(A, B), (B, C)])
        self.assertEqual(self.told([(C, A), (A, B), (B, C)], [A, B, C]), [(A, B), (A, C)])
        self.assertEqual(self.told([(C, A), (A, B), (B, C)], [B, C]), [(A, B), (A, C)])
        self.assertEqual(self.told([(B, C), (C, A), (A, B)], [B, C]), [(B, C)])

    def test_loose_ends(self):
        self.assertEqual(self.told(line(0, 0, 5), [(0, 0, 1), (0, 0, 3)]), line(0, 1, 3))
        self.assertEqual(self.told(line(0, 0, 5), [(0, 0, 5)]), [])
        self.assertEqual(self.told(line(0, 0, 5), [(0, 0, 5), (0, 0, 0)]), line(0, 0, 5))

    def test_loose_only_when_another_is_out(self):
        branch = [((0, 0, 2), (0, 1, 2)), ((0, 1, 2), (0, 2, 2)), ((0, 2, 2), (0, 3, 2))]
        self.assertEqual(self.told(branch + line(0, 0, 5), [A, F]), line(0, 0, 5))
        self.assertEqual(self.told(branch + line(0, 0, 5), [A, (0, 2, 2)]), line(0, 0, 2) + branch[:2])

    def test_no_pins(self):
        self.assertEqual(self.told(line(0, 0, 5), []), [])
        self.assertEqual(self.told([(A, B), (B, C), (C, A)], []), [])

    def test_pins_on_no_step(self):
        self.assertEqual(self.told(line(0, 0, 2), [A, C, (9, 9, 9)]), line(0, 0, 2))
        self.assertEqual(self.told(line(0, 0, 2), [(9, 9, 9)]), [])

    def test_pieces_apart(self):
        self.assertEqual(self.told([(E, F), (B, A), (C, D)], [A, B, E, C]), [(A, B)])
        self.assertEqual(self.told([(E, F), (B, A), (C, D)], [A, B, E, F]), [(A, B), (E, F)])

    def test_by_the_words(self):
        chance = random.Random(17)
        spots = list(itertools.product(range(2), range(2), range(2)))
        for _ in range(500):
            steps = [(chance.choice(spots), chance.choice(spots)) for _ in range(chance.randint(0, 12))]
            self.told(steps, chance.sample(spots, chance.randint(0, 5)))

    def test_named_arguments(self):
        self.assertEqual(pruned(steps=[(B, A)], pins=[A, B]), [(A, B)])
