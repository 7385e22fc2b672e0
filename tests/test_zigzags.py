"""Zigzags: point 10."""

import unittest
from itertools import combinations, product

from tests.samples import all_words, all_zigzags
from walktold.places import lands
from walktold.zigzags import is_zigzag, zigzag

BOARDS = [board for many in range(4) for board in combinations(all_words("ab", 3)[1:], many)][::5]


class Zigzag(unittest.TestCase):
    def test_the_word_without_colours(self):
        for board in ((), ("a",), ("ab", "b")):
            self.assertEqual(zigzag(board, ""), (0,))

    def test_forward(self):
        self.assertEqual(zigzag(("abc",), "abc"), (0, 3))
        self.assertEqual(zigzag(("a", "bc"), "abc"), (0, 1, 3))
        self.assertEqual(zigzag(("a",), "aaa"), (0, 1, 2, 3))

    def test_those_that_go_back(self):
        self.assertEqual(zigzag(("ab", "b", "bc"), "abc"), (0, 2, 1, 3))
        self.assertEqual(zigzag(("abc", "bc", "bcd"), "abcd"), (0, 3, 1, 4))
        self.assertEqual(zigzag(("aaa", "aa"), "aaaa"), (0, 2, 4))
        self.assertEqual(zigzag(("aaaa", "aaa"), "aaaaa"), (0, 4, 1, 5))

    def test_the_fewest_places(self):
        self.assertEqual(zigzag(("a", "aa", "aaa"), "aaaaaa"), (0, 3, 6))
        self.assertEqual(zigzag(("a", "b", "c", "ab", "abcd", "d"), "abcd"), (0, 4))

    def test_the_least_of_several(self):
        self.assertEqual(zigzag(("a", "aa"), "aaa"), (0, 1, 3))
        self.assertEqual(zigzag(("aa", "a"), "aaa"), (0, 1, 3))
        self.assertEqual(zigzag(("aaa", "a", "aa"), "aaaa"), (0, 1, 4))

    def test_none(self):
        for board, word in (((), "a"), (("b",), "a"), (("ab", "bc"), "abc"), (("aa",), "aaa"), (("abc",), "ab"),
                            (("a", "c"), "abc"), (("ab",), "abb"), (("b",), "ab")):
            with self.subTest(board=board, word=word):
                self.assertIsNone(zigzag(board, word))

    def test_more_zigzags_than_can_be_tried(self):
        board = ("a", "aa", "aaa", "aaaa", "aaaaa", "aaaaaa")
        self.assertEqual(zigzag(board, "a" * 12), (0, 6, 12))
        self.assertEqual(zigzag(board, "a" * 61), (0, 1) + tuple(range(7, 62, 6)))
        self.assertIsNone(zigzag(board, "a" * 60 + "b"))

    def test_against_all_zigzags(self):
        for board in BOARDS:
            for word in all_words("ab", 5):
                told = zigzag(board, word)
                self.assertEqual(told, (all_zigzags(board, word, len(word) + 1) or [None])[0], (board, word))
                self.assertEqual(told is not None, lands(board, word)[-1] == 0)
                if told is not None:
                    self.assertIs(type(told), tuple)
                    self.assertIs(is_zigzag(board, word, told), True)


class IsZigzag(unittest.TestCase):
    board = ("ab", "b", "bc")

    def test_zigzags(self):
        for places in ((0, 2, 1, 3), (0, 2, 1, 2, 1, 3), (0, 2, 0, 2, 1, 3), (0, 2, 1, 3, 1, 3)):
            self.assertIs(is_zigzag(self.board, "abc", places), True)
        self.assertIs(is_zigzag(self.board, "abc", (0,) + (2, 1) * 30 + (3,)), True)

    def test_the_word_without_colours(self):
        self.assertIs(is_zigzag((), "", (0,)), True)
        self.assertIs(is_zigzag(("a",), "", (0,)), True)
        for places in ((), (0, 0), (1,), (-1,), (0, 1, 0), (0, -1, 0)):
            self.assertIs(is_zigzag(("a",), "", places), False)

    def test_no_zigzags(self):
        for places in ((), (0,), (3,), (0, 3), (0, 2), (0, 2, 1), (2, 1, 3), (1, 3), (3, 1, 2, 0), (0, 1, 3), (0, 2, 3),
                       (0, 0, 2, 1, 3), (0, 2, 2, 1, 3), (0, 2, 1, 3, 3), (0, 2, 1, 4), (0, 2, 4, 1, 3),
                       (-1, 0, 2, 1, 3), (0, -1, 3), (0, -2, 1, 3), (0, 2, -3, 3), (0, 2, 1, -1), (0, 2, 1, 10 ** 20),
                       (0, -4, 2, 1, 3), (0, 2, 0)):
            with self.subTest(places=places):
                self.assertIs(is_zigzag(self.board, "abc", places), False)

    def test_another_word_or_board(self):
        self.assertIs(is_zigzag(self.board, "abb", (0, 2, 1, 3)), False)
        self.assertIs(is_zigzag(("ab", "bc"), "abc", (0, 2, 1, 3)), False)
        self.assertIs(is_zigzag((), "abc", (0, 2, 1, 3)), False)

    def test_against_all_zigzags(self):
        for board in BOARDS[::6]:
            for word in ("", "a", "ab", "aab"):
                found = all_zigzags(board, word, 4)
                for many in range(5):
                    for places in product(range(-1, len(word) + 2), repeat=many):
                        self.assertIs(is_zigzag(board, word, places), places in found, (board, word, places))
