"""Indexes: promise 12."""

import random
import unittest

from granary.indexes import Index


def made(*pairs):
    index = Index()
    for worth, key in pairs:
        index.add(worth, key)
    return index


class Pairs(unittest.TestCase):
    def test_empty(self):
        for low, high in ((None, None), (0, None), (None, 0), (-5, 5)):
            self.assertEqual(Index().between(low, high), [])

    def test_rising_by_worth_then_by_key(self):
        index = made((5, 1), (-3, 9), (5, -2), (0, 0), (-3, -9), (5, 0))
        self.assertEqual(index.between(None, None), [(-3, -9), (-3, 9), (0, 0), (5, -2), (5, 0), (5, 1)])

    def test_bounds(self):
        index = made((-3, 9), (0, 0), (0, -7), (5, 1), (6, 999999), (6, -999999))
        self.assertEqual(index.between(0, 5), [(0, -7), (0, 0), (5, 1)])
        self.assertEqual(index.between(0, None), [(0, -7), (0, 0), (5, 1), (6, -999999), (6, 999999)])
        self.assertEqual(index.between(None, 0), [(-3, 9), (0, -7), (0, 0)])
        self.assertEqual(index.between(1, 4), [])
        self.assertEqual(index.between(1, 5), [(5, 1)])
        self.assertEqual(index.between(-3, -3), [(-3, 9)])
        self.assertEqual(index.between(6, 6), [(6, -999999), (6, 999999)])
        self.assertEqual(index.between(7, None), [])
        self.assertEqual(index.between(None, -4), [])
        self.assertEqual(index.between(-999999, 999999), index.between(None, None))

    def test_a_least_beyond_the_greatest(self):
        index = made((1, 1), (2, 2), (3, 3))
        self.assertEqual(index.between(3, 1), [])
        self.assertEqual(index.between(2, 1), [])
        self.assertEqual(index.between(9, -9), [])

    def test_each_pair_is_told_once(self):
        index = made((1, 1), (1, 1), (1, 1), (2, 1))
        self.assertEqual(index.between(None, None), [(1, 1), (2, 1)])

    def test_a_pair_is_there_until_none_is_left(self):
        index = made((1, 1), (1, 1), (1, 2))
        index.lose(1, 1)
        self.assertEqual(index.between(None, None), [(1, 1), (1, 2)])
        index.lose(1, 1)
        self.assertEqual(index.between(None, None), [(1, 2)])
        index.lose(1, 2)
        self.assertEqual(index.between(None, None), [])

    def test_added_again_behind_that(self):
        index = made((1, 1))
        index.lose(1, 1)
        index.add(1, 1)
        index.add(1, 1)
        index.lose(1, 1)
        self.assertEqual(index.between(None, None), [(1, 1)])
        index.lose(1, 1)
        self.assertEqual(index.between(None, None), [])

    def test_losing_one_that_is_not_there_changes_nothing(self):
        index = made((1, 1))
        index.lose(1, 2)
        index.lose(2, 1)
        self.assertEqual(index.between(None, None), [(1, 1)])
        index.add(1, 2)
        self.assertEqual(index.between(None, None), [(1, 1), (1, 2)])

    def test_the_list_that_is_told_may_be_changed(self):
        index = made((1, 1), (2, 2))
        told = index.between(None, None)
        told.clear()
        index.between(1, 1).append((9, 9))
        self.assertEqual(index.between(None, None), [(1, 1), (2, 2)])
        told = index.between(None, None)
        index.add(0, 0)
        index.lose(2, 2)
        self.assertEqual(told, [(1, 1), (2, 2)])

    def test_two_indexes_are_apart(self):
        one, other = Index(), Index()
        one.add(1, 1)
        self.assertEqual(other.between(None, None), [])

    def test_against_a_list(self):
        source = random.Random(12)
        for _ in range(60):
            index, pairs = Index(), []
            for _ in range(source.randint(0, 80)):
                if pairs and source.random() < 0.45:
                    pair = source.choice(pairs)
                    pairs.remove(pair)
                    index.lose(*pair)
                else:
                    pair = (source.randint(-4, 4), source.randint(-3, 3))
                    pairs.append(pair)
                    index.add(*pair)
                low, high = (source.choice((None, *range(-5, 6))) for _ in range(2))
                within = [pair for pair in set(pairs)
                          if (low is None or pair[0] >= low) and (high is None or pair[0] <= high)]
                self.assertEqual(index.between(low, high), sorted(within))


if __name__ == "__main__":
    unittest.main()
