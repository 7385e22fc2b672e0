"""Walks: point 7."""

import unittest
from itertools import product

from tests.samples import all_maps, all_walks, all_words, some_maps
from walktold.tables import table
from walktold.walks import walk

FIVE = (5, ((0, "a", 1), (0, "a", 2), (0, "a", 3), (1, "b", 1), (2, "b", 4), (3, "b", 0), (3, "b", 4), (4, "a", 4)))


class Walks(unittest.TestCase):
    def test_the_word_without_colours(self):
        self.assertEqual(walk((1, ()), "", 0, 0), (0,))
        self.assertEqual(walk(FIVE, "", 3, 3), (3,))
        self.assertIsNone(walk(FIVE, "", 3, 4))

    def test_one_walk(self):
        self.assertEqual(walk(FIVE, "a", 0, 2), (0, 2))
        self.assertEqual(walk(FIVE, "aba", 3, 0), None)
        self.assertEqual(walk(FIVE, "bab", 3, 1), (3, 0, 1, 1))

    def test_the_least_of_many_walks(self):
        # Room 1 is the least next room, but leads nowhere.
        self.assertEqual(walk(FIVE, "ab", 0, 4), (0, 2, 4))
        self.assertEqual(walk(FIVE, "abaa", 0, 4), (0, 2, 4, 4, 4))
        full = (3, tuple(product(range(3), "a", range(3))))
        self.assertEqual(walk(full, "aaaa", 2, 1), (2, 0, 0, 0, 1))

    def test_none(self):
        self.assertIsNone(walk(FIVE, "b", 0, 1))
        self.assertIsNone(walk(FIVE, "a", 2, 0))
        self.assertIsNone(walk(FIVE, "z", 0, 0))
        self.assertIsNone(walk((2, ()), "a", 0, 1))

    def test_more_walks_than_can_be_tried(self):
        full = (8, tuple(product(range(8), "ab", range(8))))
        self.assertEqual(walk(full, "ab" * 20, 7, 6), (7,) + (0,) * 39 + (6,))
        trap = (9, tuple((x, "a", y) for x in range(8) for y in range(8)) + ((8, "b", 8),))
        self.assertIsNone(walk(trap, "a" * 40 + "b", 0, 8))

    def test_against_all_walks(self):
        for chart in list(all_maps(2, "ab")) + list(some_maps(4, "ab", 10)):
            for word in all_words("ab", 3):
                walks = all_walks(chart, word)
                for x, y in product(range(chart[0]), repeat=2):
                    least = min((one for one in walks if (one[0], one[-1]) == (x, y)), default=None)
                    self.assertEqual(walk(chart, word, x, y), least, (chart, word, x, y))

    def test_told_for_just_the_pairs_of_the_table(self):
        for chart in some_maps(6, "abc", 12):
            for word in ("a", "abc", "ccab", "abcabcabcabc"):
                pairs = table(chart, word)
                for x, y in product(range(6), repeat=2):
                    told = walk(chart, word, x, y)
                    self.assertEqual(told is not None, (x, y) in pairs)
                    if told is not None:
                        self.assertIs(type(told), tuple)
                        self.assertEqual((told[0], told[-1], len(told)), (x, y, len(word) + 1))
                        for step in zip(told, word, told[1:]):
                            self.assertIn(step, chart[1])
