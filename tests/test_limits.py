import unittest

from selfcrossed import limits


class Limits(unittest.TestCase):
    def test_values(self):
        told = {
            "MOST_LETTERS": 10, "MOST_SIDES": 8, "MOST_LISTED": 5, "MOST_LINES": 3, "MOST_UNSEEN": 6,
            "MOST_DIM": 10, "MOST_MOVES": 60, "MOST_LED": 100, "MOST_AREA": 100000000000000000000,
        }
        kept = {name: worth for name, worth in vars(limits).items() if not name.startswith("_")}
        self.assertEqual(kept, told)
        self.assertEqual({type(worth) for worth in kept.values()}, {int})
