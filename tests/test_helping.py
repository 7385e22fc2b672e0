"""Words that help: point 29."""

import unittest
from itertools import combinations

from tests.samples import all_words
from walktold.boards import joined
from walktold.helping import helping
from walktold.zigzags import zigzag

BOARDS = [board for many in range(4) for board in combinations(all_words("ab", 3)[1:], many)][::13]


class Helping(unittest.TestCase):
    def test_a_word_that_is_fixed(self):
        self.assertIsNone(helping(("a",), "a"))
        self.assertIsNone(helping(("a",), "aaaa"))
        self.assertIsNone(helping(("ab", "b", "bc"), "abc"))

    def test_the_word_without_colours(self):
        self.assertIsNone(helping((), ""))
        self.assertIsNone(helping(("a", "b"), ""))

    def test_a_shorter_one(self):
        self.assertEqual(helping((), "aaa"), "a")
        self.assertEqual(helping(("a",), "ab"), "b")
        self.assertEqual(helping(("ab", "bc"), "abc"), "a")
        self.assertEqual(helping(("a", "c"), "abbbc"), "b")
        self.assertEqual(helping((), "ababab"), "ab")
        self.assertEqual(helping(("abc",), "abcab"), "ab")

    def test_of_the_same_length_the_first(self):
        self.assertEqual(helping(("ab", "ba"), "aba"), "a")
        self.assertEqual(helping(("bab",), "bbab"), "b")
        self.assertEqual(helping(("c", "abb", "ccc"), "cabbbc"), "b")
        self.assertEqual(helping(("ba", "b"), "bba" + "ab"), "a")
        self.assertEqual(helping(("aa", "bb"), "aab"), "b")
        self.assertEqual(helping(("b",), "ba" + "ca"), "aca")
        self.assertEqual(helping(("a", "d"), "abcd"), "bc")

    def test_a_shorter_one_goes_ahead_though_it_is_greater_as_a_text(self):
        self.assertEqual(helping(("aa",), "aaz"), "z")
        self.assertEqual(helping(("zb", "zab"), "zabb"), "b")
        self.assertEqual(helping(("abz",), "abzz"), "z")

    def test_the_word_itself(self):
        self.assertEqual(helping((), "a"), "a")
        self.assertEqual(helping((), "ab"), "ab")
        self.assertEqual(helping((), "abcdef"), "abcdef")
        self.assertEqual(helping(("b", "c", "bc"), "abcd"), "abcd")
        self.assertEqual(helping((), "abcdefghijkl"), "abcdefghijkl")

    def test_colours_that_no_word_of_the_board_has(self):
        self.assertEqual(helping(("a", "b"), "abz"), "z")
        self.assertEqual(helping(("a", "b"), "axyb"), "xy")
        self.assertEqual(helping(("ab",), "zzz"), "z")

    def test_against_all_words_tried_in_order(self):
        for board in BOARDS:
            for word in all_words("ab", 4):
                if zigzag(board, word) is not None:
                    self.assertIsNone(helping(board, word))
                    continue
                # One colour more than those of the word: what doesn't stand in it doesn't help.
                tried = [one for one in all_words("abc", len(word))[1:]
                         if zigzag(joined(board, (one,)), word) is not None]
                self.assertEqual(helping(board, word), tried[0], (board, word))

    def test_put_up_it_helps(self):
        word = "abcabbcabacb"
        for board in ((), ("ab", "ca"), ("abc", "bb"), ("a", "b"), ("cab", "acb", "abb")):
            told = helping(board, word)
            self.assertIn(told, word)
            self.assertIsNone(helping(board + (told,), word))
            self.assertIsNotNone(zigzag(board + (told,), word))
