"""Rows of steps as texts: point 13."""

import unittest
from itertools import product

from walktold.errors import BadText
from walktold.steptexts import read_steps, show_steps

BOARD = ("ab", "a", "abb", "b")


class StepTexts(unittest.TestCase):
    def test_told(self):
        self.assertEqual(show_steps(BOARD, ()), ".")
        self.assertEqual(show_steps((), ()), ".")
        self.assertEqual(show_steps(BOARD, (("on", 0),)), "ab+")
        self.assertEqual(show_steps(BOARD, (("back", 3),)), "b-")
        self.assertEqual(show_steps(BOARD, (("on", 2), ("back", 1), ("on", 2))), "abb+ a- abb+")

    def test_read(self):
        self.assertEqual(read_steps(BOARD, "."), ())
        self.assertEqual(read_steps((), "."), ())
        self.assertEqual(read_steps(BOARD, "abb+ a- ab+ b-"), (("on", 2), ("back", 1), ("on", 0), ("back", 3)))

    def test_there_and_back(self):
        for many in range(4):
            for steps in product(list(product(("on", "back"), range(4))), repeat=many):
                told = read_steps(BOARD, show_steps(BOARD, steps))
                self.assertEqual(told, steps)
                self.assertIs(type(told), tuple)
        steps = (("on", 0), ("back", 2)) * 40
        self.assertEqual(read_steps(BOARD, show_steps(BOARD, steps)), steps)

    def test_refused(self):
        for text in ("", " ", "  ", "a", "ab", "abb", "+", "-", "a+ +", "- a+", "c+", "abc+", "ba+", "aa+", "A+", "bb-",
                     "a++", "a+-", "a--", "a-+", "+a", "-a+", "a +", "a*", "a=", "a1", "a+ b", "a b+", "a+b+", "a+b",
                     "a+  b+", " a+", "a+ ", "a+ b+ ", "..", ". ", " .", ". a+", "a+ .", ". .", "a.", ".+", "a+\n",
                     "\na+", "a+\nb+", ".\n", "\n", "a\n+", "a+\tb+", "a+,b+", "a+ c-", "c- a+", "on 0", "0+"):
            with self.subTest(text=text), self.assertRaises(BadText) as taken:
                read_steps(BOARD, text)
            self.assertEqual(taken.exception.row, 0)

    def test_by_the_board_without_words(self):
        for text in ("a+", "+", "-", "", "-+"):
            with self.subTest(text=text), self.assertRaises(BadText) as taken:
                read_steps((), text)
            self.assertEqual(taken.exception.row, 0)

    def test_steps_need_not_be_a_zigzags(self):
        self.assertEqual(read_steps(("ab", "cd"), "cd- cd- ab-"), (("back", 1), ("back", 1), ("back", 0)))
