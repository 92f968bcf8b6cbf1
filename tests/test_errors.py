"""[0.4]: every refusal is a class of its own under WireError."""

import unittest

from tests.helpers import refused_by
from wirefloor import errors
from wirefloor.errors import BadAnswer, BadRow, WireError
from wirefloor.floor import Floor
from wirefloor.spots import number_of, spot_of
from wirefloor.things import Bundle, Net

NAMES = [
    "BadSize", "BadPrice", "OutOfFloor", "NotAStep", "BadThing", "Twice",
    "NoFit", "Crowded", "NothingLeft", "BadRow", "BadAnswer",
]


def refusal(name):
    return getattr(errors, name)


class Refusals(unittest.TestCase):
    def test_wire_error_is_a_value_error(self):
        self.assertTrue(issubclass(WireError, ValueError))
        self.assertIsNot(WireError, ValueError)

    def test_each_is_a_wire_error_and_a_value_error(self):
        for name in NAMES:
            self.assertTrue(issubclass(refusal(name), WireError), name)
            self.assertTrue(issubclass(refusal(name), ValueError), name)

    def test_none_is_under_another_one(self):
        for name in NAMES:
            self.assertFalse(issubclass(WireError, refusal(name)), name)
            for other in NAMES:
                if name != other:
                    self.assertFalse(issubclass(refusal(name), refusal(other)), (name, other))

    def test_rows_are_kept(self):
        for kind in (BadRow, BadAnswer):
            for row in (1, 2, 4000, 10 ** 17):
                self.assertEqual(kind(row).row, row)
                self.assertEqual(kind(row=row).row, row)
                self.assertIsInstance(kind(row), WireError)
                self.assertIsInstance(kind(row), ValueError)
        self.assertNotIsInstance(BadRow(1), BadAnswer)
        self.assertNotIsInstance(BadAnswer(1), BadRow)

    def test_what_is_raised_is_an_instance_of_one_refusal_alone(self):
        floor = Floor((1, 2, 2), [(1, 1)], [])
        calls = [
            ("BadSize", lambda: Floor((0, 2, 2), [], [])),
            ("BadPrice", lambda: Floor((1, 2, 2), [(0, 1)], [])),
            ("OutOfFloor", lambda: Floor((1, 2, 2), [(1, 1)], [], [(0, 2, 0)])),
            ("OutOfFloor", lambda: number_of((1, 2, 2), (0, 2, 0))),
            ("OutOfFloor", lambda: spot_of((1, 2, 2), 4)),
            ("OutOfFloor", lambda: floor.is_rock((1, 0, 0))),
            ("NotAStep", lambda: floor.step_price((0, 0, 0), (0, 1, 1))),
            ("BadThing", lambda: Net("a", [(0, 0, 0)])),
            ("BadThing", lambda: Bundle("a", [], [(0, 0, 0)])),
        ]
        for told, call in calls:
            error = refused_by(call)
            self.assertIsInstance(error, WireError)
            self.assertIsInstance(error, ValueError)
            self.assertEqual([name for name in NAMES if isinstance(error, refusal(name))], [told])
