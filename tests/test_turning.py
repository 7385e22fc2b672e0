"""Turned about: points 3 and 25."""

import unittest
from itertools import combinations

from tests.samples import all_words, some_maps
from walktold.maps import look_map
from walktold.papers import paper
from walktold.tables import table
from walktold.turning import board_turned, map_turned, word_turned, zigzag_turned
from walktold.words import look_board
from walktold.zigzags import is_zigzag, zigzag

BOARDS = [board for many in range(4) for board in combinations(all_words("ab", 3)[1:], many)][::6]


class WordTurned(unittest.TestCase):
    def test_from_its_end(self):
        for word, turned in (("", ""), ("a", "a"), ("ab", "ba"), ("aab", "baa"), ("abcd", "dcba"), ("aba", "aba")):
            self.assertEqual(word_turned(word), turned)
            self.assertEqual(word_turned(turned), word)


class BoardTurned(unittest.TestCase):
    def test_each_word_in_its_place(self):
        self.assertEqual(board_turned(()), ())
        self.assertEqual(board_turned(("ab",)), ("ba",))
        self.assertEqual(board_turned(("aab", "ba", "c")), ("baa", "ab", "c"))
        self.assertEqual(board_turned(("ab", "ba")), ("ba", "ab"))

    def test_twice(self):
        for board in BOARDS:
            self.assertIs(look_board(board_turned(board)), True)
            self.assertEqual(board_turned(board_turned(board)), board)

    def test_what_is_fixed_stays_so(self):
        for board in BOARDS:
            for word in all_words("ab", 5):
                places = zigzag(board, word)
                turned = (board_turned(board), word_turned(word))
                self.assertEqual(zigzag(*turned) is None, places is None)
                self.assertEqual(paper(*turned)[0], paper(board, word)[0])
                if places is not None:
                    self.assertIs(is_zigzag(*turned, zigzag_turned(word, places)), True)


class MapTurned(unittest.TestCase):
    def test_streets_lead_the_other_way_and_rise(self):
        self.assertEqual(map_turned((3, ((0, "a", 2), (0, "b", 1), (2, "a", 1)))),
                         (3, ((1, "a", 2), (1, "b", 0), (2, "a", 0))))
        self.assertEqual(map_turned((2, ((0, "a", 1),))), (2, ((1, "a", 0),)))
        self.assertEqual(map_turned((12, ((0, "a", 10), (1, "a", 9), (1, "a", 11)))),
                         (12, ((9, "a", 1), (10, "a", 0), (11, "a", 1))))

    def test_loops_and_no_streets(self):
        self.assertEqual(map_turned((1, ())), (1, ()))
        self.assertEqual(map_turned((4, ())), (4, ()))
        self.assertEqual(map_turned((2, ((0, "b", 0), (1, "a", 1)))), (2, ((0, "b", 0), (1, "a", 1))))

    def test_twice(self):
        for chart in some_maps(4, "abc", 20):
            self.assertIs(look_map(map_turned(chart)), True)
            self.assertEqual(map_turned(map_turned(chart)), chart)

    def test_tables(self):
        for chart in some_maps(4, "ab", 12):
            for word in all_words("ab", 4):
                turned = tuple(sorted((y, x) for x, y in table(chart, word)))
                self.assertEqual(table(map_turned(chart), word_turned(word)), turned)


class ZigzagTurned(unittest.TestCase):
    def test_zigzags(self):
        self.assertEqual(zigzag_turned("", (0,)), (0,))
        self.assertEqual(zigzag_turned("abc", (0, 2, 1, 3)), (0, 2, 1, 3))
        self.assertEqual(zigzag_turned("aaa", (0, 1, 3)), (0, 2, 3))
        self.assertEqual(zigzag_turned("aaaa", (0, 3, 1, 2, 4)), (0, 2, 3, 1, 4))

    def test_any_places(self):
        self.assertEqual(zigzag_turned("abc", ()), ())
        self.assertEqual(zigzag_turned("", ()), ())
        self.assertEqual(zigzag_turned("abc", (3,)), (0,))
        self.assertEqual(zigzag_turned("abcd", (4, 4, 0, 1)), (3, 4, 0, 0))
        self.assertEqual(zigzag_turned("ab", (1, 2, 2)), (0, 0, 1))

    def test_twice(self):
        for places in ((), (0,), (0, 3, 1, 4), (2, 2, 4, 0)):
            self.assertEqual(zigzag_turned("abcd", zigzag_turned("abcd", places)), places)
