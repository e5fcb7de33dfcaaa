"""Tests of marktopples.bounds."""

import unittest

from marktopples import bounds

VALUES = {
    "MAX_MARKS": 12,
    "MAX_LENGTH": 1000000,
    "MAX_TICK": 1000000000,
    "LIMIT": 2000000000,
    "MAX_PUSHES": 20,
    "SMALL_TICK": 300,
    "MAX_EDITS": 60,
    "BATCH": 20,
}


class BoundsTest(unittest.TestCase):

    def test_values(self):
        for name, value in VALUES.items():
            with self.subTest(name=name):
                self.assertEqual(getattr(bounds, name), value)
                self.assertIs(type(getattr(bounds, name)), int)


if __name__ == "__main__":
    unittest.main()
