"""[79]: the limits."""

from unittest import TestCase

from lanerules import bounds


class TestBounds(TestCase):
    def test_limits(self):
        found = {name: value for name, value in vars(bounds).items() if name.isupper()}
        expected = {"MAX_LANES": 6, "MAX_CARS": 40, "SMALL": 8, "BATCH": 20, "HISTORY": 30}
        self.assertEqual(found, expected)
