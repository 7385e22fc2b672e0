"""Boards that fix other boards: points 3 and 21 to 23."""

import unittest
from itertools import combinations, permutations

from tests.samples import all_words
from walktold.boards import are_same, fixes, joined, lean
from walktold.whole import first_unlike
from walktold.words import look_board
from walktold.zigzags import zigzag

BOARDS = [board for many in range(4) for board in combinations(all_words("ab", 3)[1:], many)][::11]
WIDE = (("aa", "aaa", "aaaa", "aaaaa"), ("ab", "b", "ba", "aba"), ("aba", "ab", "ba", "b", "bab", "a"),
        ("ab", "b", "bc", "abc", "cab", "abcab"), ("aaaa", "aaa", "aaaaa", "aaaaaaaa"))


def fixed(board, word):
    return zigzag(board, word) is not None


class Fixes(unittest.TestCase):
    def test_the_other_board_without_words(self):
        for board in ((), ("a",), ("ab", "b")):
            self.assertEqual(fixes(board, ()), ("fixes", ()))

    def test_all_in_the_others_order(self):
        board = ("ab", "b", "bc")
        self.assertEqual(fixes(board, ("abc", "bb", "ab")), ("fixes", ((0, 2, 1, 3), (0, 1, 2), (0, 2))))
        self.assertEqual(fixes(board, ("ab", "bb", "abc")), ("fixes", ((0, 2), (0, 1, 2), (0, 2, 1, 3))))
        self.assertEqual(fixes(("a",), ("aaa",)), ("fixes", ((0, 1, 2, 3),)))
        self.assertEqual(fixes(board, board), ("fixes", ((0, 2), (0, 1), (0, 2))))

    def test_the_first_that_is_not(self):
        self.assertEqual(fixes((), ("a",)), ("falls", 0))
        self.assertEqual(fixes(("a",), ("a", "b")), ("falls", 1))
        self.assertEqual(fixes(("a",), ("b", "a", "c")), ("falls", 0))
        self.assertEqual(fixes(("a", "b"), ("ab", "ba", "bc", "a", "c", "b")), ("falls", 2))
        self.assertEqual(fixes(("ab", "bc"), ("ab", "abc")), ("falls", 1))

    def test_word_by_word(self):
        for one in BOARDS:
            for other in BOARDS:
                falls = [at for at, word in enumerate(other) if not fixed(one, word)]
                told = fixes(one, other)
                if falls:
                    self.assertEqual(told, ("falls", falls[0]))
                else:
                    self.assertEqual(told, ("fixes", tuple(zigzag(one, word) for word in other)))

    def test_what_a_board_fixes_another_fixes_that_fixes_its_words(self):
        for one in BOARDS:
            for other in BOARDS:
                if fixes(one, other)[0] == "fixes":
                    for word in all_words("ab", 5):
                        self.assertTrue(fixed(one, word) or not fixed(other, word), (one, other, word))
                    self.assertIsNone(first_unlike(other, one, "ab"))
                else:
                    self.assertIsNotNone(first_unlike(other, one, "ab"))


class AreSame(unittest.TestCase):
    def test_the_same_words_in_another_order(self):
        for board in permutations(("ab", "b", "ba")):
            self.assertIs(are_same(("ab", "b", "ba"), board), True)
        self.assertIs(are_same((), ()), True)

    def test_other_words(self):
        self.assertIs(are_same(("a",), ("a", "aa", "aaa")), True)
        self.assertIs(are_same(("ab", "b", "ba"), ("aba", "b", "bab", "ab", "ba")), True)
        self.assertIs(are_same(("aaa", "aaaa"), ("aaaaa", "aaaa", "aaa")), True)

    def test_one_that_fixes_the_other_but_not_the_other_way_about(self):
        for one, other in ((("a",), ("aa",)), (("a",), ()), (("a", "b"), ("ab", "ba")), (("ab", "b", "bc"), ("abc",))):
            self.assertEqual((fixes(one, other)[0], fixes(other, one)[0]), ("fixes", "falls"))
            self.assertIs(are_same(one, other), False)
            self.assertIs(are_same(other, one), False)

    def test_none_that_fixes_the_other(self):
        self.assertIs(are_same(("a",), ("b",)), False)
        self.assertIs(are_same(("aa",), ("aaa",)), False)

    def test_just_where_they_fix_the_same_words(self):
        for one in BOARDS[::2]:
            for other in BOARDS[1::2] + BOARDS[:1]:
                same = first_unlike(one, other, "ab") is None and first_unlike(other, one, "ab") is None
                self.assertIs(are_same(one, other), same)
                self.assertIs(are_same(one, lean(other)), same)


class Lean(unittest.TestCase):
    def test_nothing_to_spare(self):
        for board in ((), ("a",), ("b", "a"), ("ab", "ba", "aba"), ("aa", "aaa"), ("abc", "ab", "bc")):
            self.assertEqual(lean(board), board)

    def test_words_that_the_others_fix(self):
        self.assertEqual(lean(("aa", "a")), ("a",))
        self.assertEqual(lean(("a", "ab", "b")), ("a", "b"))
        self.assertEqual(lean(("ab", "abc", "b", "bc")), ("ab", "b", "bc"))
        self.assertEqual(lean(("aaaaa", "aaaa", "aaa")), ("aaaa", "aaa"))

    def test_those_that_are_fixed_by_others_that_are_spared(self):
        self.assertEqual(lean(("aaaa", "aaa", "aa", "a")), ("a",))
        self.assertEqual(lean(("abab", "ab", "aba", "b", "ba", "bab")), ("ab", "b", "ba"))

    def test_several_of_which_just_some_can_be_spared(self):
        self.assertEqual(lean(("c", "ab", "cab", "abb", "b", "bcc")), ("c", "ab", "b"))
        self.assertEqual(lean(("ca", "aa", "caaa", "a", "cb", "cc")), ("ca", "a", "cb", "cc"))

    def test_the_same_as_the_board_and_nothing_to_spare(self):
        for board in BOARDS + list(WIDE):
            told = lean(board)
            self.assertIs(look_board(told), True)
            self.assertEqual(told, tuple(word for word in board if word in told))
            self.assertIs(are_same(told, board), True)
            self.assertEqual(lean(told), told)
            for at, word in enumerate(told):
                self.assertFalse(fixed(told[:at] + told[at + 1:], word))
                self.assertIs(are_same(told[:at] + told[at + 1:], told), False)

    def test_two_boards_are_the_same_where_their_lean_ones_have_the_same_words(self):
        for one in BOARDS + list(WIDE):
            for other in BOARDS + list(WIDE):
                self.assertIs(are_same(one, other), set(lean(one)) == set(lean(other)))


class Joined(unittest.TestCase):
    def test_either_one_without_words(self):
        self.assertEqual(joined((), ()), ())
        self.assertEqual(joined(("b", "a"), ()), ("b", "a"))
        self.assertEqual(joined((), ("b", "a")), ("b", "a"))

    def test_words_that_both_have(self):
        self.assertEqual(joined(("b", "a"), ("c", "a", "aa")), ("b", "a", "c", "aa"))
        self.assertEqual(joined(("b", "a"), ("a", "b")), ("b", "a"))
        self.assertEqual(joined(("ab",), ("b", "ab", "a")), ("ab", "b", "a"))
        self.assertEqual(joined(("a", "b"), ("d", "c")), ("a", "b", "d", "c"))

    def test_it_fixes_both(self):
        for one in BOARDS[::3]:
            for other in BOARDS[::4]:
                told = joined(one, other)
                self.assertIs(look_board(told), True)
                self.assertEqual((fixes(told, one)[0], fixes(told, other)[0]), ("fixes", "fixes"))
                self.assertEqual(told[:len(one)], one)
