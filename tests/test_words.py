"""Words and boards, looked at: points 4 and 5."""

import unittest

from walktold.errors import NoBoard
from walktold.words import is_word, look_board


class Words(unittest.TestCase):
    def test_words(self):
        for text in ("", "a", "z", "aa", "abcdefghijklmnopqrstuvwxyz", "m" * 5000):
            with self.subTest(text=text[:30]):
                self.assertIs(is_word(text), True)

    def test_no_words(self):
        for text in ("A", "Z", "aB", "Ba", "0", "a1", "9z", " ", "a ", " a", "a b", "\n", "a\n", "\na", "-", "a-b",
                     "`", "{", "~", "@", "[", "_", "\t", "\u00e9", "\u00df", "\u0430", "\uff41", "\u00aa", "a\0"):
            with self.subTest(text=text):
                self.assertIs(is_word(text), False)

    def test_the_one_wrong_sign_may_stand_anywhere(self):
        for at in range(6):
            self.assertIs(is_word("abcdef"[:at] + "A" + "abcdef"[at:]), False)

    def test_every_sign_up_to_tilde(self):
        for number in range(128):
            self.assertIs(is_word(chr(number)), 97 <= number <= 122)


class Boards(unittest.TestCase):
    def refused_at(self, board):
        with self.assertRaises(NoBoard) as taken:
            look_board(board)
        return taken.exception.at

    def test_boards(self):
        for board in ((), ("a",), ("a", "b"), ("b", "a"), ("a", "aa", "aaa"), ("ab", "ba", "aba", "z", "zz")):
            with self.subTest(board=board):
                self.assertIs(look_board(board), True)

    def test_a_wrong_word_at_each_place(self):
        for wrong in ("", "A", "a1", " ", "a b", "c\n", "-", "\u00e9"):
            for at in range(5):
                words = ["a", "b", "ab", "ba"]
                words.insert(at, wrong)
                with self.subTest(wrong=wrong, at=at):
                    self.assertEqual(self.refused_at(tuple(words)), at)

    def test_a_word_that_stands_ahead_already(self):
        self.assertEqual(self.refused_at(("a", "a")), 1)
        self.assertEqual(self.refused_at(("a", "b", "a")), 2)
        self.assertEqual(self.refused_at(("a", "b", "b", "c")), 2)
        self.assertEqual(self.refused_at(("ab", "b", "c", "d", "ab")), 4)

    def test_the_first_of_several_faults_is_told(self):
        self.assertEqual(self.refused_at(("", "A", "")), 0)
        self.assertEqual(self.refused_at(("a", "a", "", "B")), 1)
        self.assertEqual(self.refused_at(("a", "b", "B", "a", "")), 2)
        self.assertEqual(self.refused_at(("a", "b", "", "a")), 2)

    def test_sizes_far_beyond_the_bounds(self):
        signs = "abcdefghij"
        board = tuple("".join(signs[int(figure)] for figure in str(number)) for number in range(60000))
        self.assertIs(look_board(board), True)
        self.assertEqual(self.refused_at(board + ("a",)), 60000)
        self.assertIs(look_board(("a" * 100000, "a" * 100001)), True)
        self.assertEqual(self.refused_at(("a" * 100000, "a" * 100000)), 1)
