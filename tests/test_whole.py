"""What a board fixes at all: point 19."""

import unittest
from itertools import combinations

from tests.samples import all_words, is_chain
from walktold.errors import TooMany
from walktold.readers import reader
from walktold.whole import all_from, first_beyond, first_open, first_unlike
from walktold.zigzags import zigzag

BOARDS = [board for many in range(4) for board in combinations(all_words("ab", 3)[1:], many)][::7]
FROM_TWO = ("a", "ab", "ba", "bb", "bbb")


def fixed(board, word):
    return zigzag(board, word) is not None


def first_of(words):
    return words[0] if words else None


class FirstOpen(unittest.TestCase):
    def test_none_where_all_are_fixed(self):
        self.assertIsNone(first_open(("a",), "a"))
        self.assertIsNone(first_open(("b", "a"), "ab"))
        self.assertIsNone(first_open(("a", "b", "c", "ab"), "abc"))
        self.assertIsNone(first_open(("a", "bb"), "a"))

    def test_some_word(self):
        self.assertEqual(first_open((), "a"), "a")
        self.assertEqual(first_open((), "bcd"), "b")
        self.assertEqual(first_open(("a",), "ab"), "b")
        self.assertEqual(first_open(("ab",), "b"), "b")
        self.assertEqual(first_open(("aa", "aaa"), "a"), "a")
        self.assertEqual(first_open(FROM_TWO, "ab"), "b")

    def test_words_that_share_a_length(self):
        self.assertEqual(first_open(("a", "b", "d"), "abd"), None)
        self.assertEqual(first_open(("a", "b", "d"), "abc"), "c")


class FirstBeyond(unittest.TestCase):
    def test_none(self):
        for board, colours in (((), "a"), (("a", "b"), "ab"), (("aa",), "a"), (("ab", "ba"), "ab"), (("ab",), "cd"),
                               (("ab", "b", "ba"), "b"), (("aa", "aaa"), "a")):
            self.assertIsNone(first_beyond(board, colours), board)

    def test_some_word(self):
        self.assertEqual(first_beyond(("ab", "b", "bc"), "abc"), "abc")
        self.assertEqual(first_beyond(("aaaa", "aaa"), "a"), "aaaaa")
        self.assertEqual(first_beyond(("a", "aba"), "ab"), "ababa")
        self.assertEqual(first_beyond(("a", "aaba"), "ab"), "aabaaba")
        self.assertEqual(first_beyond(("a", "ab", "ba"), "ab"), "bab")
        self.assertEqual(first_beyond(("aa", "aba", "aaab", "baba"), "ab"), "aaaabababa")


class FirstUnlike(unittest.TestCase):
    def test_none(self):
        self.assertIsNone(first_unlike((), (), "a"))
        self.assertIsNone(first_unlike((), ("a",), "ab"))
        self.assertIsNone(first_unlike(("aa",), ("a",), "ab"))
        self.assertIsNone(first_unlike(("ab", "a"), ("a", "ab"), "ab"))
        self.assertIsNone(first_unlike(("ab",), (), "a"))
        self.assertIsNone(first_unlike(("ab", "b", "ba", "aba"), ("ba", "b", "ab"), "ab"))

    def test_some_word(self):
        self.assertEqual(first_unlike(("a",), ("aa",), "a"), "a")
        self.assertEqual(first_unlike(("aa",), ("aaa",), "a"), "aa")
        self.assertEqual(first_unlike(("aaa",), ("aa",), "a"), "aaa")
        self.assertEqual(first_unlike(("ab", "b", "bc"), ("ab", "b"), "abc"), "bc")
        self.assertEqual(first_unlike(("ab", "b", "ba"), ("ab", "b"), "ab"), "ba")
        self.assertEqual(first_unlike(("aaaa", "aaa"), ("aaa", "aaaaaaaa"), "a"), "aaaa")


class AllFrom(unittest.TestCase):
    def test_all_words(self):
        self.assertEqual(all_from(("a",), "a"), 0)
        self.assertEqual(all_from(("b", "a"), "ab"), 0)
        self.assertEqual(all_from(("a", "b", "c"), "abc"), 0)

    def test_from_some_length_on(self):
        self.assertEqual(all_from(("aa", "aaa"), "a"), 2)
        self.assertEqual(all_from(("aaaa", "aaa"), "a"), 3)
        self.assertEqual(all_from(("aaaaa", "aa"), "a"), 4)
        self.assertEqual(all_from(FROM_TWO, "ab"), 2)

    def test_never(self):
        for board, colours in (((), "a"), (("aa",), "a"), (("aa", "aaaa"), "a"), (("a",), "ab"), (("a", "b"), "abc"),
                               (("ab",), "b"), (FROM_TWO, "abc"), (FROM_TWO[:4], "ab"), (("aaaa",), "a")):
            self.assertIsNone(all_from(board, colours), (board, colours))


class Against(unittest.TestCase):
    def test_words_one_by_one(self):
        for board in BOARDS:
            for colours, length in (("a", 14), ("ab", 8)):
                words = all_words(colours, length)
                taken = [word for word in words if fixed(board, word)]
                left = [word for word in words if not fixed(board, word)]
                self.assertEqual(first_open(board, colours), first_of(left))
                self.assertEqual(first_beyond(board, colours),
                                 first_of([word for word in taken if not is_chain(board, word)]))
                told = all_from(board, colours)
                longest = max([len(word) for word in left], default=-1)
                self.assertEqual(told, None if longest > length - 4 else longest + 1, (board, colours))

    def test_two_boards_word_by_word(self):
        words = all_words("ab", 7)
        some = BOARDS[::4]
        for one in some:
            for other in some:
                self.assertEqual(first_unlike(one, other, "ab"),
                                 first_of([word for word in words if fixed(one, word) and not fixed(other, word)]))


class Most(unittest.TestCase):
    def refused(self, most, asked, *things):
        with self.assertRaises(TooMany) as caught:
            asked(*things, most)
        self.assertEqual(caught.exception.most, most)

    def test_just_enough_and_one_less(self):
        for board in ((), ("ab",), ("a", "b"), ("a", "ab", "ba"), ("aa", "aba", "aaab", "baba")):
            rows = len(reader(board, "ab"))
            for asked in (first_open, first_beyond, all_from):
                self.assertEqual(asked(board, "ab", rows), asked(board, "ab"))
                self.refused(rows - 1, asked, board, "ab")
                self.refused(0, asked, board, "ab")

    def test_either_of_two_boards(self):
        small, great = ("a", "b"), ("ab",)
        self.assertIsNone(first_unlike(small, small, "ab", 1))
        self.assertEqual(first_unlike(small, great, "ab", 3), "a")
        self.refused(2, first_unlike, small, great, "ab")
        self.refused(2, first_unlike, great, small, "ab")
        self.refused(2, first_unlike, great, great, "ab")
        self.assertIsNone(first_unlike(great, small, "ab", 3))

    def test_sixty_if_nothing_is_said(self):
        enough, more = ("a" * 60,), ("a" * 61,)
        for asked in (first_open, first_beyond, all_from):
            asked(enough, "a")
            with self.assertRaises(TooMany) as caught:
                asked(more, "a")
            self.assertEqual(caught.exception.most, 60)
        self.assertEqual(first_unlike(enough, (), "a"), "a" * 60)
        for one, other in ((enough, more), (more, enough)):
            with self.assertRaises(TooMany):
                first_unlike(one, other, "a")
