"""Spread and gathered: points 3 and 26."""

import unittest
from itertools import combinations

from tests.samples import all_words, some_maps
from walktold.maps import look_map
from walktold.papers import paper
from walktold.spreading import board_spread, gathered, word_spread, zigzag_spread
from walktold.tables import table
from walktold.words import look_board
from walktold.zigzags import is_zigzag, zigzag

BOARDS = [board for many in range(4) for board in combinations(all_words("ab", 3)[1:], many)][::9]
PAIRS = ((), (("a", "b"),), (("a", "b"), ("b", "a")), (("b", "aab"),), (("a", "ab"), ("b", "ba")), (("b", "a"),),
         (("c", "aa"), ("a", "cb")), (("b", "bbbb"), ("a", "c")))


class WordSpread(unittest.TestCase):
    def test_no_pairs_and_no_colours(self):
        self.assertEqual(word_spread((), "abc"), "abc")
        self.assertEqual(word_spread((), ""), "")
        self.assertEqual(word_spread((("a", "bc"),), ""), "")

    def test_colours_without_a_pair_stay(self):
        self.assertEqual(word_spread((("a", "xyz"),), "abac"), "xyzbxyzc")
        self.assertEqual(word_spread((("d", "e"),), "abc"), "abc")

    def test_all_at_once(self):
        self.assertEqual(word_spread((("a", "b"), ("b", "a")), "aab"), "bba")
        self.assertEqual(word_spread((("a", "ab"), ("b", "ba")), "abb"), "abbaba")
        self.assertEqual(word_spread((("b", "ba"), ("a", "ab")), "abb"), "abbaba")
        self.assertEqual(word_spread((("a", "aaaa"),), "aaa"), "a" * 12)

    def test_called_anew(self):
        self.assertEqual(word_spread((("a", "x"), ("b", "y"), ("c", "z")), "cabba"), "zxyyx")


class BoardSpread(unittest.TestCase):
    def test_each_word_in_its_place(self):
        self.assertEqual(board_spread((("a", "b"),), ()), ())
        self.assertEqual(board_spread((), ("b", "a")), ("b", "a"))
        self.assertEqual(board_spread((("a", "bc"),), ("ab", "b", "aa")), ("bcb", "b", "bcbc"))

    def test_those_that_become_alike_stand_once(self):
        self.assertEqual(board_spread((("a", "b"),), ("ab", "c", "bb", "ba", "b")), ("bb", "c", "b"))
        self.assertEqual(board_spread((("a", "bb"),), ("b", "bb", "a", "ab", "bbb", "c")), ("b", "bb", "bbb", "c"))
        self.assertEqual(board_spread((("a", "c"), ("b", "c")), ("b", "a")), ("c",))

    def test_what_is_fixed_stays_so(self):
        for pairs in PAIRS:
            for board in BOARDS:
                spread = board_spread(pairs, board)
                self.assertIs(look_board(spread), True)
                for word in all_words("ab", 4):
                    places = zigzag(board, word)
                    if places is not None:
                        after = word_spread(pairs, word)
                        self.assertIsNotNone(zigzag(spread, after), (pairs, board, word))
                        self.assertIs(is_zigzag(spread, after, zigzag_spread(pairs, word, places)), True)

    def test_called_anew_just_the_same_is_fixed(self):
        pairs = (("a", "d"), ("b", "a"))
        for board in BOARDS:
            for word in all_words("ab", 5):
                spread = (board_spread(pairs, board), word_spread(pairs, word))
                self.assertEqual(zigzag(*spread), zigzag(board, word))
                self.assertEqual(paper(*spread)[0], paper(board, word)[0])


class ZigzagSpread(unittest.TestCase):
    def test_places(self):
        self.assertEqual(zigzag_spread((), "abc", (0, 2, 1, 3)), (0, 2, 1, 3))
        self.assertEqual(zigzag_spread((("a", "xyz"),), "ab", (0, 1, 2)), (0, 3, 4))
        self.assertEqual(zigzag_spread((("a", "xyz"), ("b", "uv")), "abca", (0, 1, 2, 3, 4)), (0, 3, 5, 6, 9))
        self.assertEqual(zigzag_spread((("b", "uv"),), "abc", (0, 2, 1, 3)), (0, 3, 1, 4))

    def test_any_places(self):
        self.assertEqual(zigzag_spread((("a", "xy"),), "aa", ()), ())
        self.assertEqual(zigzag_spread((("a", "xy"),), "aa", (2, 2, 0, 1, 2)), (4, 4, 0, 2, 4))
        self.assertEqual(zigzag_spread((("a", "xy"),), "", (0,)), (0,))


class Gathered(unittest.TestCase):
    chart = (3, ((0, "a", 1), (0, "c", 2), (1, "a", 2), (1, "b", 0), (2, "b", 2)))

    def test_no_pairs(self):
        self.assertEqual(gathered((), self.chart), self.chart)
        self.assertEqual(gathered((), (1, ())), (1, ()))

    def test_streets_of_the_pairs_colours_are_tables(self):
        self.assertEqual(gathered((("a", "ab"),), self.chart),
                         (3, ((0, "a", 0), (0, "c", 2), (1, "a", 2), (1, "b", 0), (2, "b", 2))))
        self.assertEqual(gathered((("a", "b"), ("b", "aa"), ("c", "z")), self.chart),
                         (3, ((0, "b", 2), (1, "a", 0), (2, "a", 2))))

    def test_colours_that_are_new(self):
        self.assertEqual(gathered((("z", "aa"),), self.chart), (3, self.chart[1][:2] + ((0, "z", 2),) + self.chart[1][2:]))

    def test_colours_that_only_stand_in_a_pairs_word_stay(self):
        told = gathered((("c", "ab"),), self.chart)
        self.assertEqual(told, (3, ((0, "a", 1), (0, "c", 0), (1, "a", 2), (1, "b", 0), (1, "c", 2), (2, "b", 2))))

    def test_streets_that_go(self):
        self.assertEqual(gathered((("a", "ccc"), ("b", "ccc"), ("c", "ccc")), self.chart), (3, ()))

    def test_as_many_rooms(self):
        self.assertEqual(gathered((("a", "b"),), (7, ((0, "a", 1),))), (7, ()))

    def test_the_words_table_is_that_of_the_word_spread(self):
        for pairs in PAIRS:
            for chart in some_maps(3, "abc", 12):
                told = gathered(pairs, chart)
                self.assertIs(look_map(told), True)
                self.assertEqual(told[0], 3)
                for word in all_words("abc", 3):
                    self.assertEqual(table(told, word), table(chart, word_spread(pairs, word)))
