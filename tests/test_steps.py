"""Rows of steps: points 11 and 13."""

import unittest
from itertools import combinations, product

from tests.samples import all_words, all_zigzags
from walktold.steps import let_by, steps_of, walked
from walktold.zigzags import zigzag

BOARD = ("ab", "b", "bc")
STEPS = (("on", 0), ("back", 1), ("on", 2))


class StepsOf(unittest.TestCase):
    def test_on_and_back(self):
        self.assertEqual(steps_of(BOARD, "abc", (0, 2, 1, 3)), STEPS)
        self.assertEqual(steps_of(("bc", "ab", "b"), "abc", (0, 2, 1, 3)), (("on", 1), ("back", 2), ("on", 0)))
        self.assertEqual(steps_of(BOARD, "abc", (0, 2, 0, 2, 1, 3)), (("on", 0), ("back", 0)) + STEPS)
        self.assertEqual(steps_of(("a", "aa"), "aaa", (0, 1, 3)), (("on", 0), ("on", 1)))
        self.assertEqual(steps_of(("aaa", "aa"), "aaaa", (0, 3, 1, 4)), (("on", 0), ("back", 1), ("on", 0)))

    def test_no_steps(self):
        self.assertEqual(steps_of((), "", (0,)), ())
        self.assertEqual(steps_of(("a",), "", (0,)), ())


class LetBy(unittest.TestCase):
    def test_steps_of_zigzags(self):
        self.assertIs(let_by(BOARD, "abc", STEPS), True)
        self.assertIs(let_by(BOARD, "abc", (("on", 0), ("back", 0)) + STEPS), True)
        self.assertIs(let_by(BOARD, "abc", STEPS + (("back", 2), ("on", 2))), True)
        self.assertIs(let_by(("aaa", "a"), "aa", (("on", 1), ("back", 1), ("on", 1), ("on", 1))), True)
        self.assertIs(let_by((), "", ()), True)
        self.assertIs(let_by(("a",), "", ()), True)

    def test_a_step_fewer(self):
        for at in range(3):
            self.assertIs(let_by(BOARD, "abc", STEPS[:at] + STEPS[at + 1:]), False)
        self.assertIs(let_by(BOARD, "abc", ()), False)

    def test_a_step_more(self):
        for at in range(4):
            for step in product(("on", "back"), range(3)):
                self.assertIs(let_by(BOARD, "abc", STEPS[:at] + (step,) + STEPS[at:]), False)
        self.assertIs(let_by(("a",), "", (("on", 0),)), False)

    def test_a_step_otherwise(self):
        steps = [(way, number) for way in ("on", "back", "", "On", "ON", "+", "-", "forward", "on ", "back\n", "kcab")
                 for number in (0, 1, 2, 3, -1, -2, -3, 10 ** 20)]
        for at in range(3):
            for step in steps:
                if step != STEPS[at]:
                    with self.subTest(at=at, step=step):
                        self.assertIs(let_by(BOARD, "abc", STEPS[:at] + (step,) + STEPS[at + 1:]), False)

    def test_numbers_of_no_word(self):
        for number in (-1, 1, 2, -2):
            self.assertIs(let_by(("a",), "a", (("on", number),)), False)
            self.assertIs(let_by((), "", (("on", number),)), False)

    def test_another_word(self):
        for word in ("", "ab", "bc", "abb", "abcc", "aabc", "cba", "bbc"):
            self.assertIs(let_by(BOARD, word, STEPS), False)

    def test_off_the_word(self):
        self.assertIs(let_by(("a", "ab"), "a", (("on", 1), ("back", 0))), False)
        self.assertIs(let_by(("a",), "a", (("back", 0), ("on", 0), ("on", 0))), False)

    def test_against_all_zigzags(self):
        for board in combinations(("a", "b", "ab", "aa", "bab"), 2):
            for word in all_words("ab", 3):
                found = {steps_of(board, word, places) for places in all_zigzags(board, word, 4)}
                for many in range(4):
                    for steps in product(list(product(("on", "back", "off"), range(-1, 3))), repeat=many):
                        self.assertIs(let_by(board, word, steps), steps in found, (board, word, steps))

    def test_the_told_zigzags_steps(self):
        for board in combinations(("a", "bb", "ab", "ba", "aab", "bab"), 4):
            for word in all_words("ab", 6):
                places = zigzag(board, word)
                if places is not None:
                    steps = steps_of(board, word, places)
                    self.assertEqual(len(steps), len(places) - 1)
                    self.assertIs(let_by(board, word, steps), True)


class Walked(unittest.TestCase):
    def test_each_number_once_rising(self):
        self.assertEqual(walked(()), ())
        self.assertEqual(walked(STEPS), (0, 1, 2))
        self.assertEqual(walked((("on", 5), ("back", 0), ("on", 3), ("on", 5), ("on", 0))), (0, 3, 5))
        self.assertEqual(walked((("on", 10), ("on", 9), ("back", 10))), (9, 10))
        self.assertEqual(walked((("on", 8), ("back", 1), ("on", 16))), (1, 8, 16))
        self.assertEqual(walked((("back", 2),)), (2,))
        self.assertIs(type(walked(STEPS)), tuple)
