import unittest

from guessedzeros import ways
from tests.things import is_alike


class TestWays(unittest.TestCase):
    def test_names(self):
        told = (ways.NEAR, ways.CUT, ways.UP, ways.DOWN)
        self.assertEqual(told, ("near", "cut", "up", "down"))

    def test_ways_in_order(self):
        self.assertTrue(is_alike(ways.WAYS, (ways.NEAR, ways.CUT, ways.UP, ways.DOWN)))

    def test_flags_in_order(self):
        self.assertTrue(is_alike(ways.FLAGS, ("bad", "bynought", "over", "under", "rounded")))


if __name__ == "__main__":
    unittest.main()
