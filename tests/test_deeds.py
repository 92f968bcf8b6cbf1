"""[7.1]: deeds."""

import unittest

from tests.helpers import line
from wirefloor.deeds import Better, Deed, Lay, Swap

ONE, TWO, THREE = line(0, 0, 2), line(1, 0, 3), line(2, 1, 2)


class Deeds(unittest.TestCase):
    def done(self, deed, layout):
        kept = dict((name, list(wiring)) for name, wiring in layout.items())
        told = deed.done(layout)
        self.assertEqual(layout, kept)
        self.assertIsNot(told, layout)
        for name, wiring in told.items():
            self.assertIsInstance(wiring, list)
            self.assertTrue(all(wiring is not other for other in layout.values()))
            wiring.append("changed")
        self.assertEqual(layout, kept)
        again = deed.done(layout)
        for wiring in told.values():
            wiring.pop()
        self.assertEqual(told, again)
        return again

    def test_kinds(self):
        deeds = [Lay("a", ONE), Swap("a", ONE, []), Better("a", ONE)]
        for deed in deeds:
            self.assertEqual(deed.__class__.__bases__, (Deed,))
            self.assertEqual(deed.name, "a")
            self.assertEqual(deed.wiring, ONE)
            self.assertIsInstance(deed.wiring, list)
        self.assertEqual(Deed("x").name, "x")

    def test_a_plain_deed(self):
        for layout in ({}, {"a": ONE}, {"b": TWO, "a": []}):
            self.assertEqual(self.done(Deed("a"), layout), layout)
        self.assertEqual(Deed(name="a").laid_anew(), [])

    def test_lay(self):
        deed = Lay(name="b", wiring=TWO)
        self.assertEqual(self.done(deed, {}), {"b": TWO})
        self.assertEqual(self.done(deed, {"a": ONE}), {"a": ONE, "b": TWO})
        self.assertEqual(self.done(deed, {"b": ONE}), {"b": TWO})
        self.assertEqual(deed.laid_anew(), ["b"])

    def test_better(self):
        deed = Better(name="b", wiring=TWO)
        self.assertEqual(self.done(deed, {"b": ONE, "a": THREE}), {"a": THREE, "b": TWO})
        self.assertEqual(self.done(deed, {"a": ONE}), {"a": ONE, "b": TWO})
        self.assertEqual(deed.laid_anew(), ["b"])

    def test_swap(self):
        deed = Swap(name="m", wiring=TWO, others=[("z", ONE), ("a", THREE)])
        self.assertEqual(deed.swapped, [("z", ONE), ("a", THREE)])
        self.assertIsInstance(deed.swapped, list)
        self.assertEqual(deed.wiring, TWO)
        self.assertEqual(self.done(deed, {"z": TWO, "a": TWO, "q": ONE}), {"z": ONE, "a": THREE, "q": ONE, "m": TWO})
        self.assertEqual(self.done(deed, {}), {"z": ONE, "a": THREE, "m": TWO})
        self.assertEqual(self.done(deed, {"m": ONE}), {"z": ONE, "a": THREE, "m": TWO})
        self.assertEqual(deed.laid_anew(), ["a", "m", "z"])

    def test_swap_with_none(self):
        deed = Swap("m", TWO, [])
        self.assertEqual(self.done(deed, {"a": ONE}), {"a": ONE, "m": TWO})
        self.assertEqual((deed.swapped, deed.laid_anew()), ([], ["m"]))

    def test_in_the_order_of_texts(self):
        deed = Swap("b10", ONE, [("b9", ONE), ("b", ONE), ("ab", ONE), ("b1", ONE)])
        self.assertEqual(deed.laid_anew(), ["ab", "b", "b1", "b10", "b9"])

    def test_lists_changed_behind(self):
        wiring, other = list(ONE), list(TWO)
        others = [("b", other)]
        deeds = [Lay("a", wiring), Better("a", wiring), Swap("a", wiring, others)]
        wiring.clear()
        other.clear()
        others.clear()
        for deed in deeds:
            self.assertEqual(deed.wiring, ONE)
            self.assertEqual(deed.done({})["a"], ONE)
        self.assertEqual(deeds[2].swapped, [("b", TWO)])
        self.assertEqual(deeds[2].done({}), {"a": ONE, "b": TWO})

    def test_what_is_handed_in_stays(self):
        wiring, others = list(ONE), [("b", list(TWO))]
        deed = Swap("a", wiring, others)
        deed.done({})["b"].clear()
        deed.laid_anew().clear()
        self.assertEqual((wiring, others), (ONE, [("b", TWO)]))
        self.assertEqual(deed.laid_anew(), ["a", "b"])
        self.assertEqual(deed.done({}), {"a": ONE, "b": TWO})
