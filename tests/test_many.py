"""Zigzags counted and listed: point 35."""

import unittest
from itertools import combinations

from tests.samples import all_words, all_zigzags
from walktold.many import how_many_zigzags, zigzags_to
from walktold.zigzags import is_zigzag, zigzag

BOARDS = [board for many in range(4) for board in combinations(all_words("ab", 3)[1:], many)][::9]
# Words of which one begins another.
BEGUN = (("a", "aa", "aaa"), ("ab", "aba", "abab"), ("a", "ab", "abb", "b"), ("b", "ba", "bab", "a", "baba"))


class HowMany(unittest.TestCase):
    def test_no_places(self):
        for board in ((), ("a",), ("a", "aa")):
            for word in ("", "a", "aa"):
                self.assertEqual(how_many_zigzags(board, word, 0), 0)

    def test_one_place(self):
        for board in ((), ("a",), ("a", "aa")):
            self.assertEqual(how_many_zigzags(board, "", 1), 1)
            self.assertEqual(how_many_zigzags(board, "a", 1), 0)
            self.assertEqual(how_many_zigzags(board, "ab", 1), 0)

    def test_the_word_without_colours_has_no_other(self):
        self.assertEqual([how_many_zigzags(("a", "b"), "", places) for places in range(2, 15)], [0] * 13)

    def test_small_ones(self):
        self.assertEqual([how_many_zigzags(("a",), "a", places) for places in range(8)], [0, 0, 1, 0, 1, 0, 1, 0])
        self.assertEqual([how_many_zigzags(("a", "aa"), "aa", places) for places in range(6)], [0, 0, 1, 1, 3, 5])
        self.assertEqual([how_many_zigzags(("ab", "b", "bc"), "abc", places) for places in range(7)],
                         [0, 0, 0, 0, 1, 0, 3])

    def test_not_fixed(self):
        self.assertEqual([how_many_zigzags(("ab", "bc"), "abc", places) for places in range(15)], [0] * 15)

    def test_against_listed_ones(self):
        for board in BOARDS + list(BEGUN):
            for word in all_words("ab", 4):
                found = all_zigzags(board, word, 6)
                self.assertEqual([how_many_zigzags(board, word, places) for places in range(7)],
                                 [len([one for one in found if len(one) == places]) for places in range(7)])

    def test_great_numbers(self):
        # By all words of `a` each place leads to each other one: ways are those that end at place 0 and those that end
        # at any one other place.
        board = tuple("a" * many for many in range(1, 13))
        ends = [1, 0]
        for places in range(1, 15):
            self.assertEqual(how_many_zigzags(board, "a" * 12, places), ends[1])
            ends = [12 * ends[1], ends[0] + 11 * ends[1]]
        self.assertEqual(how_many_zigzags(board, "a" * 12, 14), (12 ** 13 + 1) // 13)
        board, word = ("a", "aa", "aaa"), "aaaaaa"
        self.assertEqual(how_many_zigzags(board, word, 10),
                         len(zigzags_to(board, word, 10)) - len(zigzags_to(board, word, 9)))


class Listed(unittest.TestCase):
    def test_none(self):
        self.assertEqual(zigzags_to((), "", 0), [])
        self.assertEqual(zigzags_to(("a",), "a", 0), [])
        self.assertEqual(zigzags_to(("a",), "a", 1), [])
        self.assertEqual(zigzags_to(("ab", "bc"), "abc", 7), [])

    def test_the_word_without_colours(self):
        for places in range(1, 8):
            self.assertEqual(zigzags_to(("a", "b"), "", places), [(0,)])

    def test_order(self):
        self.assertEqual(zigzags_to(("a", "aa"), "aa", 4),
                         [(0, 2), (0, 1, 2), (0, 1, 0, 2), (0, 2, 0, 2), (0, 2, 1, 2)])
        self.assertEqual(zigzags_to(("ab", "b", "bc"), "abc", 6),
                         [(0, 2, 1, 3), (0, 2, 0, 2, 1, 3), (0, 2, 1, 2, 1, 3), (0, 2, 1, 3, 1, 3)])

    def test_they_may_go_over_the_last_place(self):
        self.assertIn((0, 1, 0, 1), zigzags_to(("a",), "a", 4))
        self.assertEqual(zigzags_to(("a",), "a", 5), [(0, 1), (0, 1, 0, 1)])

    def test_against_all_tried(self):
        for board in BOARDS + list(BEGUN):
            for word in all_words("ab", 4):
                for places in range(6):
                    self.assertEqual(zigzags_to(board, word, places), all_zigzags(board, word, places))

    def test_seven_places(self):
        for board, word in ((("ab", "b", "ba"), "abababababab"), (("aaa", "aaaaa"), "aaaaaaa"),
                            (("abb", "bab"), "abbab")):
            told = zigzags_to(board, word, 7)
            self.assertEqual(told, all_zigzags(board, word, 7))
            self.assertEqual(len(told), sum(how_many_zigzags(board, word, places) for places in range(8)))
            self.assertTrue(all(is_zigzag(board, word, one) for one in told))

    def test_the_first_is_the_zigzag(self):
        for board in BOARDS:
            for word in all_words("ab", 5):
                places = zigzag(board, word)
                told = zigzags_to(board, word, 0 if places is None else len(places))
                self.assertEqual(told[:1], [] if places is None else [places])

    def test_the_list_is_new(self):
        told = zigzags_to(("a", "aa"), "aa", 4)
        self.assertIs(type(told), list)
        told.append(())
        self.assertEqual(len(zigzags_to(("a", "aa"), "aa", 4)), 5)
