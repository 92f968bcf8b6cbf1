"""[5.1], [5.2]: parts that are merged, and links that are taken."""

import random
import unittest

from wirefloor.parts import Parts, taken


def slow_taken(links, many):
    groups = [{mark} for mark in range(many)]
    told = []
    for price, one, other in sorted(links):
        left = [group for group in groups if one in group][0]
        right = [group for group in groups if other in group][0]
        if left is not right:
            groups = [group for group in groups if group is not left and group is not right] + [left | right]
            told.append((price, one, other))
    return told


class Merging(unittest.TestCase):
    def test_each_alone_at_first(self):
        parts = Parts(4)
        self.assertEqual(parts.many_parts(), 4)
        for one in range(4):
            for other in range(4):
                self.assertIs(parts.together(one, other), one == other)

    def test_none_at_all(self):
        self.assertEqual(Parts(0).many_parts(), 0)

    def test_merged(self):
        parts = Parts(5)
        self.assertIs(parts.merge(1, 3), True)
        self.assertIs(parts.together(3, 1), True)
        self.assertIs(parts.together(1, 2), False)
        self.assertEqual(parts.many_parts(), 4)
        self.assertIs(parts.merge(4, 3), True)
        self.assertIs(parts.together(1, 4), True)
        self.assertEqual(parts.many_parts(), 3)

    def test_with_itself(self):
        parts = Parts(3)
        self.assertIs(parts.merge(2, 2), False)
        self.assertEqual(parts.many_parts(), 3)

    def test_told_twice(self):
        parts = Parts(3)
        self.assertIs(parts.merge(0, 1), True)
        self.assertIs(parts.merge(0, 1), False)
        self.assertIs(parts.merge(1, 0), False)
        self.assertEqual(parts.many_parts(), 2)
        self.assertIs(parts.merge(2, 1), True)
        self.assertIs(parts.merge(0, 2), False)
        self.assertEqual(parts.many_parts(), 1)

    def test_two_side_by_side(self):
        one, other = Parts(2), Parts(2)
        one.merge(0, 1)
        self.assertFalse(other.together(0, 1))

    def test_named_arguments(self):
        parts = Parts(many=2)
        self.assertFalse(parts.together(one=0, other=1))
        self.assertTrue(parts.merge(one=0, other=1))

    def test_many_runs(self):
        chance = random.Random(13)
        for _ in range(100):
            many = chance.randint(1, 12)
            parts, groups = Parts(many), dict((mark, mark) for mark in range(many))
            for _ in range(20):
                one, other = chance.randrange(many), chance.randrange(many)
                self.assertEqual(parts.together(one, other), groups[one] == groups[other])
                if chance.random() < 0.5:
                    self.assertEqual(parts.merge(one, other), groups[one] != groups[other])
                    old, new = groups[one], groups[other]
                    groups = dict((mark, new if group == old else group) for mark, group in groups.items())
                self.assertEqual(parts.many_parts(), len(set(groups.values())))

    def test_long_rows(self):
        for order in (range(2999), reversed(range(2999))):
            parts = Parts(3000)
            for mark in order:
                self.assertTrue(parts.merge(mark, mark + 1))
            self.assertTrue(parts.together(0, 2999))
            self.assertEqual(parts.many_parts(), 1)


class Links(unittest.TestCase):
    def test_from_the_least_on(self):
        links = [(5, 0, 1), (1, 1, 2), (3, 0, 2), (9, 2, 3)]
        self.assertEqual(taken(links, 4), [(1, 1, 2), (3, 0, 2), (9, 2, 3)])
        self.assertEqual(links, [(5, 0, 1), (1, 1, 2), (3, 0, 2), (9, 2, 3)])

    def test_none(self):
        self.assertEqual(taken([], 3), [])
        self.assertEqual(taken([], 0), [])

    def test_equal_prices(self):
        self.assertEqual(taken([(1, 1, 2), (1, 0, 2), (1, 0, 1)], 3), [(1, 0, 1), (1, 0, 2)])
        self.assertEqual(taken([(1, 2, 1), (1, 2, 0), (1, 1, 0)], 3), [(1, 1, 0), (1, 2, 0)])
        self.assertEqual(taken([(1, 0, 1), (1, 0, 1)], 2), [(1, 0, 1)])

    def test_from_a_mark_to_itself(self):
        self.assertEqual(taken([(0, 1, 1), (2, 0, 1)], 2), [(2, 0, 1)])

    def test_several_parts_left(self):
        self.assertEqual(taken([(2, 3, 2), (1, 0, 1)], 5), [(1, 0, 1), (2, 3, 2)])

    def test_by_the_words(self):
        chance = random.Random(14)
        for _ in range(200):
            many = chance.randint(1, 7)
            links = [(chance.randint(0, 4), chance.randrange(many),
                      chance.randrange(many)) for _ in range(chance.randint(0, 14))]
            kept = list(links)
            self.assertEqual(taken(links=links, many=many), slow_taken(links, many))
            self.assertEqual(links, kept)
