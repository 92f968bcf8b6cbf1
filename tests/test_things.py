"""[2.1], and of [0.3] what things keep and tell."""

import unittest

from wirefloor.errors import BadThing
from wirefloor.things import Bundle, Net, Thing

LETTERS = "abcdefghijklmnopqrstuvwxyz"


def row_of(many, first=0):
    return [(0, 0, first + column) for column in range(many)]


def net(name="n", pins=None, half=0, room=0):
    return Net(name, row_of(2) if pins is None else pins, half, room)


def bundle(name="b", starts=None, goals=None, room=0):
    return Bundle(name, row_of(1) if starts is None else starts, row_of(1, 5) if goals is None else goals, room)


class Names(unittest.TestCase):
    def test_good_names(self):
        good = list(LETTERS) + [letter + "0" for letter in LETTERS]
        good += ["a0123456789", "abcdefghijkl", "mnopqrstuvwx", "yz", "a23456789012", "to", "net", "z9z9"]
        for name in good:
            self.assertEqual(net(name).name, name)
            self.assertEqual(bundle(name).name, name)

    def test_bad_names(self):
        bad = ["", "0", "9", "0a", "1abc", "A", "Ab", "aB", "a_b", "_a", "a b", " a", "a ", "a-b", "a.b", "a\n", "\n",
               "abcdefghijklm", "a234567890123", "a" * 100, "#", "a#", "~", "a~", "`", "{", "a{", "a`", "a/", "a:", "@"]
        for name in bad:
            with self.assertRaises(BadThing):
                net(name)
            with self.assertRaises(BadThing):
                bundle(name)


class Rooms(unittest.TestCase):
    def test_rooms_at_their_edges(self):
        for room in (0, 1, 2, 3):
            self.assertEqual(net(room=room).room, room)
            self.assertEqual(bundle(room=room).room, room)
        for room in (-100, -1, 4, 5, 10 ** 18):
            with self.assertRaises(BadThing):
                net(room=room)
            with self.assertRaises(BadThing):
                bundle(room=room)

    def test_halves_at_their_edges(self):
        for half in (0, 1, 2):
            self.assertEqual(net(half=half).half, half)
        for half in (-100, -1, 3, 4, 10 ** 18):
            with self.assertRaises(BadThing):
                net(half=half)
        self.assertEqual(bundle(room=3).half, 0)

    def test_half_and_room_are_two_things(self):
        thing = Net("n", row_of(2), 1, 3)
        self.assertEqual((thing.half, thing.room), (1, 3))
        thing = Net("n", row_of(2), room=2)
        self.assertEqual((thing.half, thing.room), (0, 2))
        thing = Net("n", row_of(2), half=2)
        self.assertEqual((thing.half, thing.room), (2, 0))

    def test_left_out(self):
        thing = Net("n", row_of(2))
        self.assertEqual((thing.half, thing.room), (0, 0))
        thing = Bundle("b", row_of(1), row_of(1, 1))
        self.assertEqual((thing.half, thing.room), (0, 0))


class Pins(unittest.TestCase):
    def test_two_to_six_pins(self):
        for many in range(2, 7):
            self.assertEqual(net(pins=row_of(many)).pins, tuple(row_of(many)))
        for many in (0, 1, 7, 8, 30):
            with self.assertRaises(BadThing):
                net(pins=row_of(many))

    def test_one_spot_twice(self):
        for pins in ([(0, 0, 0), (0, 0, 0)], row_of(3) + [(0, 0, 2)], row_of(3) + [(0, 0, 0)], row_of(5) + [(0, 0, 1)]):
            with self.assertRaises(BadThing):
                net(pins=pins)

    def test_spots_that_differ_in_one_number(self):
        pins = [(1, 2, 3), (0, 2, 3), (1, 1, 3), (1, 2, 0)]
        self.assertEqual(net(pins=pins).pins, tuple(pins))

    def test_ends_in_the_order_told(self):
        pins = [(1, 5, 5), (0, 3, 1), (2, 0, 0), (0, 0, 9)]
        thing = net(pins=pins)
        self.assertEqual(thing.ends(), pins)
        self.assertEqual(thing.pins, tuple(pins))
        self.assertIsInstance(thing.ends(), list)
        self.assertIsInstance(thing.pins, tuple)

    def test_outside_any_floor(self):
        pins = [(-1, 0, 0), (10 ** 17, 0, -5)]
        self.assertEqual(net(pins=pins).ends(), pins)


class StartsAndGoals(unittest.TestCase):
    def test_how_many(self):
        for starts in range(0, 9):
            for goals in range(0, 15):
                good = 1 <= starts <= 6 and starts <= goals <= 12
                args = ("b", row_of(starts), row_of(goals, 20))
                if good:
                    thing = Bundle(*args)
                    self.assertEqual((thing.starts, thing.goals), (tuple(args[1]), tuple(args[2])))
                else:
                    with self.assertRaises(BadThing):
                        Bundle(*args)

    def test_one_spot_twice(self):
        cases = [
            ([(0, 0, 0), (0, 0, 0)], row_of(2, 5)),
            ([(0, 0, 0), (0, 0, 1), (0, 0, 0)], row_of(4, 5)),
            (row_of(2), [(0, 0, 5), (0, 0, 5)]),
            (row_of(1), [(0, 0, 5), (0, 0, 6), (0, 0, 5)]),
            (row_of(1), row_of(1)),
            (row_of(2), [(0, 0, 5), (0, 0, 1)]),
            (row_of(2), [(0, 0, 0), (0, 0, 5), (0, 0, 6)]),
        ]
        for starts, goals in cases:
            with self.assertRaises(BadThing):
                Bundle("b", starts, goals)

    def test_ends_are_starts_and_then_goals(self):
        starts = [(1, 5, 5), (0, 3, 1)]
        goals = [(2, 0, 0), (0, 0, 9), (1, 1, 1)]
        thing = Bundle("b", starts, goals, 1)
        self.assertEqual(thing.ends(), starts + goals)
        self.assertEqual((thing.starts, thing.goals), (tuple(starts), tuple(goals)))
        self.assertIsInstance(thing.ends(), list)
        self.assertIsInstance(thing.starts, tuple)
        self.assertIsInstance(thing.goals, tuple)
        self.assertEqual(thing.room, 1)

    def test_outside_any_floor(self):
        thing = Bundle("b", [(-1, -1, -1)], [(99, 99, 99)])
        self.assertEqual(thing.ends(), [(-1, -1, -1), (99, 99, 99)])


class Kinds(unittest.TestCase):
    def test_nets_and_bundles_are_things(self):
        self.assertIsInstance(net(), Thing)
        self.assertIsInstance(bundle(), Thing)
        self.assertNotIsInstance(net(), Bundle)
        self.assertNotIsInstance(bundle(), Net)

    def test_named_arguments(self):
        thing = Net(name="n1", pins=row_of(3), half=2, room=1)
        self.assertEqual((thing.name, thing.half, thing.room, thing.ends()), ("n1", 2, 1, row_of(3)))
        thing = Bundle(name="b1", starts=row_of(1), goals=row_of(2, 3), room=3)
        self.assertEqual((thing.name, thing.half, thing.room), ("b1", 0, 3))
        self.assertEqual(thing.ends(), row_of(1) + row_of(2, 3))


class Copies(unittest.TestCase):
    def test_what_is_handed_in_is_not_changed(self):
        pins, starts, goals = row_of(3), row_of(2), row_of(3, 7)
        net(pins=pins).ends().append((9, 9, 9))
        bundle(starts=starts, goals=goals).ends().append((9, 9, 9))
        self.assertEqual((pins, starts, goals), (row_of(3), row_of(2), row_of(3, 7)))

    def test_changing_it_behind_the_call_changes_nothing(self):
        pins, starts, goals = row_of(3), row_of(2), row_of(3, 7)
        one, two = net(pins=pins), bundle(starts=starts, goals=goals)
        pins[0] = (8, 8, 8)
        pins.append((9, 9, 9))
        starts.clear()
        goals.pop()
        self.assertEqual(one.pins, tuple(row_of(3)))
        self.assertEqual(one.ends(), row_of(3))
        self.assertEqual((two.starts, two.goals), (tuple(row_of(2)), tuple(row_of(3, 7))))
        self.assertEqual(two.ends(), row_of(2) + row_of(3, 7))

    def test_changing_what_was_told_changes_nothing(self):
        one, two = net(pins=row_of(3)), bundle(starts=row_of(2), goals=row_of(3, 7))
        one.ends().clear()
        two.ends().append((9, 9, 9))
        self.assertEqual(one.ends(), row_of(3))
        self.assertEqual(two.ends(), row_of(2) + row_of(3, 7))
        self.assertEqual((two.starts, two.goals), (tuple(row_of(2)), tuple(row_of(3, 7))))
