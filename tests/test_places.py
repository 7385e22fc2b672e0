"""Stretches and lands: point 9."""

import unittest
from itertools import combinations

from tests.samples import all_words
from walktold.places import lands, stretches


def plain_stretches(board, word):
    return sorted((i, j, k) for i in range(len(word) + 1) for j in range(i + 1, len(word) + 1)
                  for k in range(len(board)) if board[k] == word[i:j])


def plain_lands(board, word):
    told = []
    for place in range(len(word) + 1):
        land = {place}
        for turn in range(len(word) + 1):
            land |= {b for i, j, k in plain_stretches(board, word) for a, b in ((i, j), (j, i)) if a in land}
        told.append(min(land))
    return tuple(told)


class Stretches(unittest.TestCase):
    def test_none(self):
        self.assertEqual(stretches((), "abc"), [])
        self.assertEqual(stretches(("a", "b"), ""), [])
        self.assertEqual(stretches((), ""), [])
        self.assertEqual(stretches(("c", "ba", "abb"), "ab"), [])

    def test_words_that_overlap(self):
        self.assertEqual(stretches(("bc", "ab"), "abc"), [(0, 2, 1), (1, 3, 0)])
        self.assertEqual(stretches(("aa",), "aaaa"), [(0, 2, 0), (1, 3, 0), (2, 4, 0)])

    def test_one_word_within_another(self):
        self.assertEqual(stretches(("abc", "b", "ab"), "abc"), [(0, 2, 2), (0, 3, 0), (1, 2, 1)])

    def test_a_word_at_several_places(self):
        self.assertEqual(stretches(("ab",), "abcabab"), [(0, 2, 0), (3, 5, 0), (5, 7, 0)])

    def test_a_stretch_ends_where_the_word_ends(self):
        self.assertEqual(stretches(("cc", "c"), "abc"), [(2, 3, 1)])
        self.assertEqual(stretches(("abc",), "abc"), [(0, 3, 0)])

    def test_rising(self):
        told = stretches(("aaa", "a", "aa"), "aaa")
        self.assertEqual(told, [(0, 1, 1), (0, 2, 2), (0, 3, 0), (1, 2, 1), (1, 3, 2), (2, 3, 1)])

    def test_the_list_is_the_askers_own(self):
        board, word = ("a", "ab"), "aab"
        told = stretches(board, word)
        self.assertIs(type(told), list)
        asked = list(told)
        told.append((9, 9, 9))
        told[0] = None
        self.assertEqual(stretches(board, word), asked)
        self.assertEqual(lands(board, word), (0, 0, 0, 0))

    def test_against_the_plain_way(self):
        for board in combinations(("a", "b", "ab", "ba", "aab", "bb"), 3):
            for word in all_words("ab", 5):
                self.assertEqual(stretches(board, word), plain_stretches(board, word))


class Lands(unittest.TestCase):
    def test_without_words_each_place_is_its_own(self):
        self.assertEqual(lands((), ""), (0,))
        self.assertEqual(lands((), "abc"), (0, 1, 2, 3))
        self.assertEqual(lands(("z",), "abc"), (0, 1, 2, 3))
        self.assertEqual(lands(("a",), ""), (0,))

    def test_all_in_one(self):
        self.assertEqual(lands(("a",), "aaa"), (0, 0, 0, 0))
        self.assertEqual(lands(("abc", "bc", "b"), "abc"), (0, 0, 0, 0))

    def test_several(self):
        self.assertEqual(lands(("ab", "bc"), "abc"), (0, 1, 0, 1))
        self.assertEqual(lands(("aa",), "aaaaa"), (0, 1, 0, 1, 0, 1))
        self.assertEqual(lands(("b",), "abbcb"), (0, 1, 1, 1, 4, 4))

    def test_back_only_from_a_greater_place(self):
        # Places 1 and 2 come together only behind, at place 4.
        self.assertEqual(lands(("bcd", "cd"), "abcd"), (0, 1, 1, 3, 1))

    def test_against_the_plain_way(self):
        for board in combinations(("a", "bb", "ab", "ba", "aab", "bab"), 2):
            for word in all_words("ab", 5):
                told = lands(board, word)
                self.assertEqual(told, plain_lands(board, word))
                self.assertIs(type(told), tuple)
