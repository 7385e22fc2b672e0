"""Zigzags laid in: point 24."""

import unittest
from itertools import combinations

from tests.samples import all_words, all_zigzags
from walktold.boards import fixes
from walktold.laying import laid_in
from walktold.zigzags import is_zigzag, zigzag

BOARDS = [board for many in range(4) for board in combinations(all_words("ab", 3)[1:], many)][::13]


class LaidIn(unittest.TestCase):
    def test_the_word_without_colours(self):
        self.assertEqual(laid_in("", (0,), (), ()), (0,))
        self.assertEqual(laid_in("", (0,), ("ab",), ("a", "b")), (0,))

    def test_in_one_step(self):
        self.assertEqual(laid_in("abc", (0, 2, 1, 3), ("ab", "b", "bc"), ("bc", "ab", "b")), (0, 2, 1, 3))
        self.assertEqual(laid_in("aa", (0, 1, 0, 1, 2), ("a",), ("a", "aa")), (0, 1, 0, 1, 2))

    def test_on_in_several_steps(self):
        self.assertEqual(laid_in("abab", (0, 2, 4), ("ab",), ("a", "b")), (0, 1, 2, 3, 4))
        self.assertEqual(laid_in("ab", (0, 2), ("ab",), ("a", "b")), (0, 1, 2))
        self.assertEqual(laid_in("cab", (0, 1, 3), ("c", "ab"), ("a", "b", "c")), (0, 1, 2, 3))

    def test_back_in_several_steps(self):
        self.assertEqual(laid_in("abcd", (0, 3, 1, 4), ("abc", "bc", "bcd"), ("a", "b", "c", "d")),
                         (0, 1, 2, 3, 2, 1, 2, 3, 4))
        self.assertEqual(laid_in("abcd", (0, 3, 1, 4), ("abc", "bc", "bcd"), ("abc", "b", "c", "bcd")),
                         (0, 3, 2, 1, 4))
        self.assertEqual(laid_in("abcd", (0, 3, 1, 4), ("abc", "bc", "bcd"), ("ab", "b", "c", "d")),
                         (0, 2, 3, 2, 1, 2, 3, 4))

    def test_zigzags_of_words_that_turn_themselves(self):
        # `abc` by the other board is (0, 2, 1, 3).
        other = ("ab", "b", "bc", "d")
        self.assertEqual(laid_in("dabc", (0, 1, 4), ("d", "abc"), other), (0, 1, 3, 2, 4))
        self.assertEqual(laid_in("abcabc", (0, 3, 6), ("abc",), other), (0, 2, 1, 3, 5, 4, 6))
        self.assertEqual(laid_in("abc", (0, 3, 0, 3), ("abc",), ("ab", "b", "bc")),
                         (0, 2, 1, 3, 1, 2, 0, 2, 1, 3))

    def test_the_steps_word_by_its_least_zigzag(self):
        # `aaa` by the other board is (0, 1, 3), gone back too.
        self.assertEqual(laid_in("aaaaa", (0, 3, 5, 2, 5), ("aaa", "aa"), ("a", "aa")),
                         (0, 1, 3, 5, 3, 2, 3, 5))

    def test_numbers_are_those_of_the_first_board(self):
        self.assertEqual(laid_in("ba", (0, 1, 2), ("a", "b"), ("b", "a")), (0, 1, 2))
        self.assertEqual(laid_in("aab", (0, 2, 3), ("b", "aa", "ab"), ("a", "b")), (0, 1, 2, 3))

    def test_told_is_a_zigzag_by_the_other_board(self):
        for one in BOARDS:
            for other in BOARDS:
                told = fixes(other, one)
                if told[0] == "fixes":
                    for word in all_words("ab", 5):
                        for places in all_zigzags(one, word, 5)[:9]:
                            self.assertLaid(word, places, one, other, told[1])

    def assertLaid(self, word, places, one, other, zigzags):
        laid = laid_in(word, places, one, other)
        self.assertIs(is_zigzag(other, word, laid), True, (word, places, one, other, laid))
        parts = [(0,)]
        for begin, end in zip(places, places[1:]):
            low, high = min(begin, end), max(begin, end)
            part = tuple(low + place for place in zigzags[one.index(word[low:high])])
            parts.append(part[1:] if begin < end else part[::-1][1:])
        self.assertEqual(laid, sum(parts, ()))

    def test_by_the_same_board(self):
        for board in BOARDS:
            for word in all_words("ab", 5):
                places = zigzag(board, word)
                if places is not None:
                    self.assertEqual(laid_in(word, places, board, board), places)
