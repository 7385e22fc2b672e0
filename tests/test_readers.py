"""The reader of a board: points 3 and 17."""

import unittest
from itertools import combinations

from tests.samples import all_words, is_least
from walktold.errors import TooMany
from walktold.least import least_reader
from walktold.readers import reader
from walktold.reading import is_reader, taken_words, takes
from walktold.zigzags import zigzag

BOARDS = [board for many in range(4) for board in combinations(all_words("ab", 3)[1:], many)][::3]
# Boards whose zigzags go back over several words.
WIDE = (("aa", "aba", "aaab", "baba"), ("baab", "abaa", "baa", "aaba"), ("aab", "aba", "aaba"), ("a", "aaba"),
        ("aa", "aaa", "abba"), ("acca", "caaa", "acc", "aac"), ("ab", "b", "bc", "cab"))


class Reader(unittest.TestCase):
    def test_the_board_without_words(self):
        self.assertEqual(reader((), "a"), ((True, (1,)), (False, (1,))))
        self.assertEqual(reader((), "abc"), ((True, (1, 1, 1)), (False, (1, 1, 1))))

    def test_all_words(self):
        self.assertEqual(reader(("a",), "a"), ((True, (0,)),))
        self.assertEqual(reader(("a", "b", "c"), "abc"), ((True, (0, 0, 0)),))

    def test_small_boards(self):
        self.assertEqual(reader(("aa",), "a"), ((True, (1,)), (False, (0,))))
        self.assertEqual(reader(("aaaa", "aaa"), "a"), ((True, (1,)), (False, (2,)), (False, (3,)), (True, (3,))))
        self.assertEqual(reader(("ab",), "ab"), ((True, (1, 2)), (False, (2, 0)), (False, (2, 2))))
        self.assertEqual(reader(("ba",), "ab"), ((True, (1, 2)), (False, (1, 1)), (False, (0, 1))))

    def test_one_that_goes_back(self):
        self.assertEqual(reader(("ab", "b", "ba"), "ab"),
                         ((True, (1, 2)), (False, (3, 2)), (True, (0, 2)), (False, (3, 3))))
        # Behind `b` the place is open, but `ba` leads over it, and `a` back to it.
        self.assertEqual(reader(("a", "ab", "ba"), "ab"),
                         ((True, (1, 2)), (True, (1, 0)), (False, (1, 3)), (False, (3, 3))))

    def test_colours_that_stand_in_no_word(self):
        self.assertEqual(reader(("a",), "ab"), ((True, (0, 1)), (False, (1, 1))))
        self.assertEqual(reader(("b",), "abc"), ((True, (1, 0, 1)), (False, (1, 1, 1))))
        self.assertEqual(reader(("ab",), "cd"), ((True, (1, 1)), (False, (1, 1))))

    def test_colours_of_the_board_that_are_not_asked(self):
        self.assertEqual(reader(("ab", "b"), "a"), ((True, (1,)), (False, (1,))))
        self.assertEqual(reader(("a", "ab", "c"), "a"), ((True, (0,)),))
        self.assertEqual(reader(("aa", "bb", "ab"), "b"), ((True, (1,)), (False, (0,))))

    def test_against_zigzag(self):
        for board in BOARDS:
            for colours, most in (("a", 9), ("b", 9), ("ab", 6), ("bc", 4)):
                told = reader(board, colours)
                self.assertIs(is_reader(colours, told), True)
                self.assertTrue(is_least(colours, told), (board, colours, told))
                self.assertEqual(taken_words(colours, told, most),
                                 [word for word in all_words(colours, most) if zigzag(board, word) is not None])

    def test_wide_boards_against_zigzag(self):
        for board in WIDE:
            for colours, most in (("ab", 10), ("abc", 6)):
                told = reader(board, colours)
                self.assertTrue(is_least(colours, told), (board, colours, told))
                self.assertEqual(least_reader(colours, told), told)
                self.assertEqual(taken_words(colours, told, most),
                                 [word for word in all_words(colours, most) if zigzag(board, word) is not None])

    def test_long_words(self):
        for board in WIDE:
            told = reader(board, "abc")
            for part in ("aaba", "aba", "acca", "cab", "abba", "aaab"):
                for word in (part * 9, part * 8 + "ab", "ba" + part * 7):
                    self.assertIs(takes("abc", told, word), zigzag(board, word) is not None, (board, word))


class Most(unittest.TestCase):
    def test_just_enough_and_one_less(self):
        for board in WIDE + ((), ("ab",), ("a", "b")):
            for colours in ("a", "ab", "abc"):
                told = reader(board, colours)
                self.assertEqual(reader(board, colours, len(told)), told)
                for most in range(len(told)):
                    with self.assertRaises(TooMany) as caught:
                        reader(board, colours, most)
                    self.assertEqual(caught.exception.most, most)

    def test_sixty_if_nothing_is_said(self):
        self.assertEqual(len(reader(("a" * 60,), "a")), 60)
        with self.assertRaises(TooMany) as caught:
            reader(("a" * 61,), "a")
        self.assertEqual(caught.exception.most, 60)
        self.assertEqual(len(reader(("a" * 61,), "a", 61)), 61)

    def test_rows_count_only_when_it_is_the_least(self):
        # Read place by place there are more than so many rows, of which many take alike.
        self.assertEqual(reader(("a", "aaaa", "aaab", "abab"), "a", 1), ((True, (0,)),))
        self.assertEqual(reader(("b", "a", "baab", "abba"), "ab", 1), ((True, (0, 0)),))
