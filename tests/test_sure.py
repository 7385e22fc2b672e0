"""The free map and sure pairs: points 37 and 38."""

import unittest
from itertools import product

from tests.samples import all_words, some_maps
from walktold.beside import maps_beside
from walktold.freemap import free_map
from walktold.maps import look_map
from walktold.sure import how_sure, sure
from walktold.tables import board_tables, table

BOARDS = ((), ("a",), ("ab", "b"), ("a", "aa"), ("ab", "b", "ba", "abb"), ("b", "a", "ab"), ("aba", "ab", "a", "b"),
          ("aaa", "aa"))


def some_tables(many, board, number, state=1):
    """So many tuples of tables, one for each word of a board, the same ones each time."""
    for turn in range(number):
        tables = []
        for word in board:
            pairs = []
            for pair in product(range(many), repeat=2):
                state = (state * 1103515245 + 12345) % 2147483648
                if (state >> 16) % (many + 1) <= turn % 2 and len(pairs) < 12:
                    pairs.append(pair)
            tables.append(tuple(pairs))
        yield tuple(tables)


def cuts(board, word):
    """All tuples of numbers of a board's words that are the word, one behind the other."""
    if word == "":
        return [()]
    return [(number,) + rest for number, one in enumerate(board) if word.startswith(one)
            for rest in cuts(board, word[len(one):])]


def leads(tables, numbers, x, y):
    rooms = {x}
    for number in numbers:
        rooms = {end for begin, end in tables[number] if begin in rooms}
    return y in rooms


def plain_how(board, tables, word, x, y):
    found = [(len(numbers), numbers) for numbers in cuts(board, word) if leads(tables, numbers, x, y)]
    return min(found)[1] if found else None


class FreeMap(unittest.TestCase):
    def test_the_board_without_words(self):
        self.assertEqual(free_map(1, (), ()), (1, ()))
        self.assertEqual(free_map(8, (), ()), (8, ()))

    def test_tables_without_pairs(self):
        self.assertEqual(free_map(3, ("a", "abc"), ((), ())), (3, ()))
        self.assertEqual(free_map(2, ("abc", "b"), ((), ((0, 1),))), (2, ((0, "b", 1),)))

    def test_words_of_one_colour_have_no_rooms_of_their_own(self):
        self.assertEqual(free_map(3, ("b", "a"), (((0, 1), (2, 2)), ((0, 0), (1, 0)))),
                         (3, ((0, "a", 0), (0, "b", 1), (1, "a", 0), (2, "b", 2))))

    def test_words_of_several_colours(self):
        self.assertEqual(free_map(2, ("abc",), (((0, 1),),)), (4, ((0, "a", 2), (2, "b", 3), (3, "c", 1))))
        self.assertEqual(free_map(1, ("aa",), (((0, 0),),)), (2, ((0, "a", 1), (1, "a", 0))))

    def test_rooms_are_numbered_on_word_by_word_and_pair_by_pair(self):
        self.assertEqual(free_map(2, ("ab", "bca"), (((0, 0), (1, 0)), ((0, 1), (1, 1)))),
                         (8, ((0, "a", 2), (0, "b", 4), (1, "a", 3), (1, "b", 6), (2, "b", 0), (3, "b", 0),
                              (4, "c", 5), (5, "a", 1), (6, "c", 7), (7, "a", 1))))
        self.assertEqual(free_map(2, ("ba", "a", "aa"), (((1, 0),), ((1, 0),), ((1, 0),))),
                         (4, ((1, "a", 0), (1, "a", 3), (1, "b", 2), (2, "a", 0), (3, "a", 0))))

    def test_the_same_pair_in_several_tables(self):
        self.assertEqual(free_map(2, ("a", "b", "ab"), (((0, 1),),) * 3),
                         (3, ((0, "a", 1), (0, "a", 2), (0, "b", 1), (2, "b", 1))))

    def test_it_is_a_map_with_at_least_these_tables(self):
        for board in BOARDS:
            for tables in some_tables(3, board, 12):
                told = free_map(3, board, tables)
                self.assertIs(look_map(told), True)
                self.assertEqual(told[0], 3 + sum((len(word) - 1) * len(pairs) for word, pairs in zip(board, tables)))
                self.assertEqual(len(told[1]), sum(len(word) * len(pairs) for word, pairs in zip(board, tables)))
                for word, pairs in zip(board, tables):
                    self.assertLessEqual(set(pairs), set(table(told, word)))


class Sure(unittest.TestCase):
    def test_the_word_without_colours(self):
        self.assertEqual(sure(3, (), (), ""), ((0, 0), (1, 1), (2, 2)))
        self.assertEqual(sure(2, ("a",), (((0, 1),),), ""), ((0, 0), (1, 1)))

    def test_words_that_cannot_be_cut(self):
        self.assertEqual(sure(2, (), (), "a"), ())
        full = ((0, 0), (0, 1), (1, 0), (1, 1))
        self.assertEqual(sure(2, ("ab", "b", "bc"), (full, full, full), "abc"), ())
        self.assertEqual(sure(2, ("aa",), (full,), "aaa"), ())
        self.assertEqual(sure(2, ("b",), (full,), "ab"), ())

    def test_cut_in_one_way(self):
        self.assertEqual(sure(3, ("a",), (((0, 1), (1, 2)),), "a"), ((0, 1), (1, 2)))
        self.assertEqual(sure(3, ("a",), (((0, 1), (1, 2)),), "aa"), ((0, 2),))
        self.assertEqual(sure(3, ("a",), (((0, 1), (1, 2)),), "aaa"), ())
        self.assertEqual(sure(3, ("ab", "c"), (((2, 0),), ((0, 1), (0, 2))), "abc"), ((2, 1), (2, 2)))

    def test_cut_in_several_ways(self):
        tables = (((0, 1),), ((1, 0), (1, 2)), ((0, 0), (2, 1)))
        self.assertEqual(sure(3, ("a", "b", "ab"), tables, "ab"), ((0, 0), (0, 2), (2, 1)))
        self.assertEqual(sure(3, ("a", "b", "ab"), tables, "abab"), ((0, 0), (0, 1), (0, 2)))

    def test_the_table_on_the_free_map(self):
        for board in BOARDS:
            for tables in some_tables(3, board, 12, 3):
                chart = free_map(3, board, tables)
                for word in all_words("ab", 4) + ["abc", "ababab", "aaaaaaa"]:
                    told = tuple((x, y) for x, y in table(chart, word) if x < 3 and y < 3)
                    self.assertEqual(sure(3, board, tables, word), told, (board, tables, word))

    def test_on_every_map_that_has_these_pairs(self):
        for board in BOARDS:
            for chart in some_maps(3, "ab", 8, 5):
                whole = board_tables(chart, board)
                tables = tuple(pairs[::2] for pairs in whole)
                for great in (chart, maps_beside(chart, (2, ((0, "a", 1),)))):
                    for word in all_words("ab", 4):
                        self.assertLessEqual(set(sure(3, board, tables, word)), set(table(great, word)))
                        self.assertLessEqual(set(sure(3, board, tables, word)), set(sure(3, board, whole, word)))


class HowSure(unittest.TestCase):
    def test_the_word_without_colours(self):
        self.assertEqual(how_sure(2, ("a",), (((0, 1),),), "", 1, 1), ())
        self.assertIsNone(how_sure(2, ("a",), (((0, 1),),), "", 0, 1))
        self.assertEqual(how_sure(1, (), (), "", 0, 0), ())

    def test_none(self):
        self.assertIsNone(how_sure(2, (), (), "a", 0, 0))
        self.assertIsNone(how_sure(2, ("a",), (((0, 1),),), "a", 1, 0))
        self.assertIsNone(how_sure(2, ("a",), (((0, 1),),), "aa", 0, 1))
        self.assertIsNone(how_sure(2, ("ab", "b", "bc"), (((0, 0),),) * 3, "abc", 0, 0))

    def test_the_fewest_words(self):
        loop = ((0, 0),)
        self.assertEqual(how_sure(1, ("a", "b", "ab"), (loop,) * 3, "ab", 0, 0), (2,))
        self.assertEqual(how_sure(1, ("a", "b", "ab"), (loop, loop, ()), "ab", 0, 0), (0, 1))
        self.assertEqual(how_sure(1, ("a", "aaa", "aa"), (loop,) * 3, "aaaa", 0, 0), (0, 1))
        self.assertEqual(how_sure(1, ("a", "aa"), (loop,) * 2, "aaaaa", 0, 0), (0, 1, 1))

    def test_of_these_the_least(self):
        loop = ((0, 0),)
        self.assertEqual(how_sure(1, ("ab", "c", "a", "bc"), (loop,) * 4, "abc", 0, 0), (0, 1))
        self.assertEqual(how_sure(1, ("a", "c", "ab", "bc"), (loop,) * 4, "abc", 0, 0), (0, 3))
        self.assertEqual(how_sure(1, ("aaa", "a"), (loop,) * 2, "aaaa", 0, 0), (0, 1))
        # The least at the beginning may lead nowhere.
        self.assertEqual(how_sure(2, ("aaa", "a"), (((0, 1),), ((0, 0),)), "aaaa", 0, 1), (1, 0))

    def test_rooms_between(self):
        board = ("a", "b", "ab", "ba")
        tables = (((0, 1), (0, 2)), ((2, 0),), ((0, 1),), ((1, 2),))
        self.assertEqual(how_sure(3, board, tables, "aba", 0, 2), (0, 3))
        self.assertEqual(how_sure(3, board, tables, "aba", 0, 1), (0, 1, 0))
        self.assertEqual(how_sure(3, board, tables, "abba", 0, 2), (2, 3))
        self.assertIsNone(how_sure(3, board, tables, "aba", 1, 2))

    def test_against_all_cuts(self):
        for board in BOARDS:
            for tables in some_tables(3, board, 12, 9):
                for word in all_words("ab", 4) + ["ababab", "aaaaaaa", "abbabb"]:
                    pairs = []
                    for x, y in product(range(3), repeat=2):
                        told = how_sure(3, board, tables, word, x, y)
                        self.assertEqual(told, plain_how(board, tables, word, x, y), (board, tables, word, x, y))
                        if told is not None:
                            pairs.append((x, y))
                    self.assertEqual(sure(3, board, tables, word), tuple(pairs))

    def test_long_words(self):
        # There are more cuts than can be tried.
        full = tuple(product(range(3), repeat=2))
        board = ("a", "aa", "aaa", "aaaa", "aaaaa", "aaaaaa")
        self.assertEqual(how_sure(3, board, (full,) * 6, "a" * 12, 1, 2), (5, 5))
        self.assertEqual(how_sure(3, board, (full,) * 5 + ((),), "a" * 12, 1, 2), (1, 4, 4))
        self.assertEqual(how_sure(3, ("a", "aa"), (full, full), "a" * 60, 0, 0), (1,) * 30)
        self.assertEqual(sure(3, ("a", "aa"), (full, full), "a" * 60), full)
