"""Tables of words, and what is made of two: points 7 and 8."""

import unittest
from itertools import product

from tests.samples import all_maps, all_walks, all_words, some_maps
from walktold.tables import board_tables, every, over, table

FOUR = (4, ((0, "a", 1), (0, "a", 2), (1, "b", 3), (2, "b", 3), (3, "a", 3), (3, "c", 0)))


def plain_over(one, other):
    return tuple(sorted({(x, z) for x, y in one for begin, z in other if y == begin}))


def plain_every(many, one, other):
    return tuple((x, y) for x, y in product(range(many), repeat=2)
                 if all((x, z) in one for z in range(many) if (y, z) in other))


def some_tables(many):
    return [tuple((x, y) for x, y, mark in sorted((x, y, (x * 5 + y * 3 + turn * (x + 2 * y)) % 4)
                                                  for x, y in product(range(many), repeat=2)) if mark < turn % 4)
            for turn in range(12)]


class Tables(unittest.TestCase):
    def test_the_word_without_colours(self):
        self.assertEqual(table((1, ()), ""), ((0, 0),))
        self.assertEqual(table(FOUR, ""), ((0, 0), (1, 1), (2, 2), (3, 3)))

    def test_a_colour_that_the_map_has_not(self):
        self.assertEqual(table(FOUR, "z"), ())
        self.assertEqual(table(FOUR, "az"), ())
        self.assertEqual(table(FOUR, "za"), ())
        self.assertEqual(table((3, ()), "a"), ())

    def test_one_colour_in_its_direction(self):
        self.assertEqual(table(FOUR, "a"), ((0, 1), (0, 2), (3, 3)))
        self.assertEqual(table(FOUR, "b"), ((1, 3), (2, 3)))

    def test_loops(self):
        self.assertEqual(table((2, ((0, "a", 0), (0, "b", 1), (1, "a", 1))), "aaaaaa"), ((0, 0), (1, 1)))
        self.assertEqual(table((2, ((0, "a", 0), (0, "b", 1), (1, "a", 1))), "aabaa"), ((0, 1),))
        self.assertEqual(table((3, ((0, "a", 1), (1, "a", 2), (2, "a", 0))), "aaaa"), ((0, 1), (1, 2), (2, 0)))

    def test_several_walks_of_one_pair_stand_once(self):
        self.assertEqual(table(FOUR, "ab"), ((0, 3),))
        self.assertEqual(table(FOUR, "abc"), ((0, 0),))

    def test_told_rising(self):
        chart = (3, ((0, "a", 1), (0, "a", 2), (1, "b", 2), (2, "b", 0), (2, "b", 1)))
        self.assertEqual(table(chart, "ab"), ((0, 0), (0, 1), (0, 2)))
        wide = (17, ((0, "a", 3), (0, "a", 5), (3, "b", 8), (3, "b", 16), (5, "b", 1), (5, "b", 9)))
        self.assertEqual(table(wide, "ab"), ((0, 1), (0, 8), (0, 9), (0, 16)))

    def test_more_walks_than_can_be_tried(self):
        full = (8, tuple((x, "a", y) for x in range(8) for y in range(8)))
        self.assertEqual(table(full, "a" * 40), tuple(product(range(8), repeat=2)))

    def test_against_all_walks(self):
        charts = list(all_maps(2, "ab")) + list(some_maps(4, "ab", 12)) + [FOUR]
        for chart in charts:
            for word in all_words("ab", 3):
                asked = tuple(sorted({(walk[0], walk[-1]) for walk in all_walks(chart, word)}))
                told = table(chart, word)
                self.assertEqual(told, asked, (chart, word))
                self.assertIs(type(told), tuple)
                self.assertEqual(table(chart, word), told)

    def test_tables_of_a_board(self):
        self.assertEqual(board_tables(FOUR, ()), ())
        self.assertEqual(board_tables(FOUR, ("b", "ab", "z")), (((1, 3), (2, 3)), ((0, 3),), ()))
        self.assertEqual(board_tables(FOUR, ("ab", "z", "b")), (((0, 3),), (), ((1, 3), (2, 3))))
        self.assertIs(type(board_tables(FOUR, ("a", "b"))), tuple)


class Over(unittest.TestCase):
    def test_without_pairs(self):
        self.assertEqual(over((), ()), ())
        self.assertEqual(over(((0, 1),), ()), ())
        self.assertEqual(over((), ((0, 1),)), ())

    def test_ordinary(self):
        self.assertEqual(over(((0, 1),), ((1, 2),)), ((0, 2),))
        self.assertEqual(over(((1, 2),), ((0, 1),)), ())
        self.assertEqual(over(((0, 1), (0, 2)), ((1, 3), (2, 0), (2, 3))), ((0, 0), (0, 3)))

    def test_all_pairs(self):
        full = tuple(product(range(4), repeat=2))
        self.assertEqual(over(full, full), full)
        self.assertEqual(over(full, ((1, 2),)), ((0, 2), (1, 2), (2, 2), (3, 2)))

    def test_against_the_plain_way(self):
        for one, other in product(some_tables(4), repeat=2):
            self.assertEqual(over(one, other), plain_over(one, other))

    def test_a_word_behind_another(self):
        for chart in some_maps(5, "ab", 10):
            self.assertEqual(over(table(chart, "ab"), table(chart, "ba")), table(chart, "abba"))


class Every(unittest.TestCase):
    def test_rooms_that_stand_ahead_in_no_pair(self):
        full = tuple(product(range(3), repeat=2))
        self.assertEqual(every(3, (), ()), full)
        self.assertEqual(every(3, ((0, 1),), ()), full)
        self.assertEqual(every(3, (), ((1, 2),)), ((0, 0), (0, 2), (1, 0), (1, 2), (2, 0), (2, 2)))
        self.assertEqual(every(1, (), ()), ((0, 0),))
        self.assertEqual(every(1, (), ((0, 0),)), ())

    def test_every_and_not_some(self):
        self.assertEqual(every(2, ((0, 0),), ((0, 0), (0, 1), (1, 0))), ((0, 1),))
        self.assertEqual(every(2, ((0, 0), (0, 1)), ((0, 0), (0, 1), (1, 0))), ((0, 0), (0, 1)))

    def test_all_pairs(self):
        full = tuple(product(range(4), repeat=2))
        self.assertEqual(every(4, full, full), full)
        self.assertEqual(every(4, (), full), ())
        self.assertEqual(every(4, ((1, 0), (1, 1), (1, 2), (1, 3)), full), ((1, 0), (1, 1), (1, 2), (1, 3)))

    def test_against_the_plain_way(self):
        for many in (4, 5):
            for one, other in product(some_tables(4), repeat=2):
                told = every(many, one, other)
                self.assertEqual(told, plain_every(many, one, other))
                self.assertIs(type(told), tuple)
