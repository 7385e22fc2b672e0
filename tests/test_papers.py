"""Papers: points 3 and 15."""

import unittest
from itertools import combinations

from tests.samples import all_words
from walktold.papers import paper, shows
from walktold.steps import steps_of
from walktold.tables import table
from walktold.twins import twins
from walktold.zigzags import zigzag

BOARDS = [board for many in range(4) for board in combinations(all_words("ab", 3)[1:], many)][::4]
BOARD = ("ab", "b", "bc")
STEPS = (("on", 0), ("back", 1), ("on", 2))


class Paper(unittest.TestCase):
    def test_steps(self):
        self.assertEqual(paper(BOARD, "abc"), ("steps", STEPS))
        self.assertEqual(paper(("a", "aa"), "aaa"), ("steps", (("on", 0), ("on", 1))))
        self.assertEqual(paper((), ""), ("steps", ()))
        self.assertEqual(paper(("a",), ""), ("steps", ()))

    def test_maps(self):
        self.assertEqual(paper((), "a"), (
            "maps", (4, ((0, "a", 2), (1, "a", 3))), (4, ((0, "a", 3), (1, "a", 2)))))
        self.assertEqual(paper(("ab", "bc"), "abc"), ("maps",) + twins(("ab", "bc"), "abc"))

    def test_just_one_of_both_is_told_and_is_shown(self):
        for board in BOARDS:
            for word in all_words("ab", 5):
                places = zigzag(board, word)
                told = paper(board, word)
                if places is None:
                    self.assertEqual(told, ("maps",) + twins(board, word))
                else:
                    self.assertEqual(told, ("steps", steps_of(board, word, places)))
                self.assertIs(shows(board, word, told), True)


class ShowsSteps(unittest.TestCase):
    def test_steps_of_any_zigzag(self):
        self.assertIs(shows(BOARD, "abc", ("steps", STEPS)), True)
        self.assertIs(shows(BOARD, "abc", ("steps", (("on", 0), ("back", 0)) + STEPS)), True)
        self.assertIs(shows((), "", ("steps", ())), True)

    def test_one_thing_otherwise(self):
        for at in range(3):
            for step in (("on", 0), ("on", 1), ("on", 2), ("back", 0), ("back", 1), ("back", 2), ("on", 3), ("on", -3),
                         ("back", -2), ("", 0), ("steps", 0), ("maps", 1)):
                if step != STEPS[at]:
                    wrong = STEPS[:at] + (step,) + STEPS[at + 1:]
                    self.assertIs(shows(BOARD, "abc", ("steps", wrong)), False, wrong)
            self.assertIs(shows(BOARD, "abc", ("steps", STEPS[:at] + STEPS[at + 1:])), False)

    def test_steps_of_another_word_or_board(self):
        for word in ("", "ab", "abb", "abcc", "cba"):
            self.assertIs(shows(BOARD, word, ("steps", STEPS)), False)
        self.assertIs(shows(("b", "ab", "bc"), "abc", ("steps", STEPS)), False)
        self.assertIs(shows(("ab", "bc"), "abc", ("steps", STEPS)), False)
        self.assertIs(shows((), "abc", ("steps", ())), False)

    def test_no_steps_for_open_words(self):
        for steps in ((), (("on", 0),), (("on", 1),), (("on", 0), ("on", 1)), (("on", 0), ("back", 0))):
            self.assertIs(shows(("ab", "bc"), "abc", ("steps", steps)), False)


class ShowsMaps(unittest.TestCase):
    board = ("ab", "bc")

    def test_other_maps_than_those_that_are_told(self):
        one = (2, ((0, "a", 0),))
        other = (2, ((0, "a", 1),))
        self.assertIs(shows(("b",), "a", ("maps", one, other)), True)
        self.assertIs(shows(("b",), "a", ("maps", other, one)), True)
        self.assertIs(shows(("a",), "b", ("maps", one, other)), False)
        self.assertIs(shows(("aa",), "a", ("maps", one, other)), False)
        self.assertIs(shows(("b",), "a", ("maps", one, one)), False)
        self.assertIs(shows(("b",), "a", ("maps", one, (3, other[1]))), False)
        self.assertIs(shows(("b",), "a", ("maps", (1, ()), (1, ((0, "a", 0),)))), True)

    def test_maps_for_fixed_words(self):
        one, other = twins(self.board, "abc")
        self.assertIs(shows(self.board, "abc", ("maps", one, other)), True)
        self.assertIs(shows(BOARD, "abc", ("maps", one, other)), False)
        for word in ("", "ab", "bc", "abcab", "a" * 12):
            self.assertIs(shows(self.board, word, ("maps", one, other)), False)

    def test_a_street_less(self):
        one, other = twins(self.board, "abc")
        for at in range(6):
            less = (8, other[1][:at] + other[1][at + 1:])
            # A street of the walk from room 0 or 1 of the word is missing, so that of a word of the board is, too.
            self.assertIs(shows(self.board, "abc", ("maps", one, less)), False)
            self.assertIs(shows((), "abc", ("maps", one, less)), True)

    def test_a_street_more(self):
        one, other = twins(self.board, "abc")
        more = (8, tuple(sorted(other[1] + ((7, "a", 7),))))
        self.assertIs(shows(self.board, "abc", ("maps", one, more)), True)
        more = (8, tuple(sorted(other[1] + ((0, "a", 2),))))
        self.assertIs(shows(self.board, "abc", ("maps", one, more)), False)

    def test_a_street_led_otherwise(self):
        one, other = twins(self.board, "abc")
        for at, (begin, colour, end) in enumerate(other[1]):
            for room in range(8):
                if room != end:
                    led = (8, other[1][:at] + ((begin, colour, room),) + other[1][at + 1:])
                    unlike = [word for word in self.board if table(one, word) != table(led, word)]
                    self.assertIs(shows(self.board, "abc", ("maps", one, led)),
                                  unlike == [] and table(one, "abc") != table(led, "abc"))
        led = (8, ((0, "a", 4),) + other[1][1:])
        self.assertIs(shows(self.board, "abc", ("maps", one, led)), False)
        self.assertIs(shows((), "abc", ("maps", one, led)), True)

    def test_other_forms(self):
        one, other = twins(self.board, "abc")
        self.assertIs(shows(self.board, "abc", ("twins", one, other)), False)
        self.assertIs(shows(BOARD, "abc", ("step", STEPS)), False)
