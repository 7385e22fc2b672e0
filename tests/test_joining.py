"""Readers joined: points 3 and 39."""

import unittest
from itertools import combinations

from tests.samples import all_words, is_least, some_readers
from walktold.boards import joined
from walktold.errors import TooMany
from walktold.joining import by_both, by_either, by_none, turned_reader
from walktold.least import least_reader
from walktold.readers import reader
from walktold.reading import is_reader, taken_words, takes
from walktold.turning import board_turned, word_turned

BOARDS = [board for many in range(4) for board in combinations(all_words("ab", 3)[1:], many)][::17]
WIDE = (("aa", "aba", "aaab", "baba"), ("aab", "aba", "aaba"), ("a", "abba", "babb", "bbab"), ("acca", "caaa", "acc"))
EVEN = ((True, (1, 0)), (False, (0, 1)))
# Row 2 is not come to, row 3 takes like row 0.
IDLE = ((False, (1, 0)), (True, (3, 1)), (True, (0, 2)), (False, (1, 3)))
ALL = ((True, (0, 0)),)
NOTHING = ((False, (0, 0)),)


def ring(many):
    """A reader of the words of `a` whose number of colours so many part evenly."""
    return tuple((row == 0, ((row + 1) % many,)) for row in range(many))


def behind(many):
    """A reader of the words of `ab` that have an `a` just so many colours ahead of their end."""
    # A row has the last colours, `a` as 1: turned about there are few rows.
    size = 2 ** many
    return tuple((row >= size // 2, ((2 * row + 1) % size, 2 * row % size)) for row in range(size))


def ahead(many):
    """The least reader of the words of `ab` whose colour of this number, from 1, is `a`."""
    rows = [(False, (row + 1, row + 1)) for row in range(many - 1)]
    return tuple(rows + [(False, (many, many + 1)), (True, (many, many)), (False, (many + 1, many + 1))])


class Joined(unittest.TestCase):
    def checked(self, colours, told, length, wanted):
        """A reader that is told takes just the words wanted, and is the least."""
        self.assertIs(is_reader(colours, told), True)
        self.assertTrue(is_least(colours, told), told)
        self.assertEqual(taken_words(colours, told, length),
                         [word for word in all_words(colours, length) if wanted(word)])

    def test_small_ones(self):
        self.assertEqual(by_both("ab", EVEN, ALL), EVEN)
        self.assertEqual(by_both("ab", EVEN, NOTHING), NOTHING)
        self.assertEqual(by_either("ab", EVEN, NOTHING), EVEN)
        self.assertEqual(by_either("ab", EVEN, ALL), ALL)
        self.assertEqual(by_none("ab", EVEN), ((False, (1, 0)), (True, (0, 1))))
        self.assertEqual(by_none("ab", ALL), NOTHING)
        self.assertEqual(by_none("ab", NOTHING), ALL)
        self.assertEqual(turned_reader("ab", EVEN), EVEN)
        self.assertEqual(turned_reader("ab", ALL), ALL)
        self.assertEqual(turned_reader("ab", NOTHING), NOTHING)

    def test_turned(self):
        begins = ((False, (1, 2)), (True, (1, 1)), (False, (2, 2)))
        ends = ((False, (1, 0)), (True, (1, 0)))
        self.assertEqual(turned_reader("ab", begins), ends)
        self.assertEqual(turned_reader("ab", ends), begins)
        just_ab = ((False, (1, 2)), (False, (2, 3)), (False, (2, 2)), (True, (2, 2)))
        just_ba = ((False, (1, 2)), (False, (1, 1)), (False, (3, 1)), (True, (1, 1)))
        self.assertEqual(turned_reader("ab", just_ab), just_ba)

    def test_two_against_takes(self):
        for colours, many, length in (("a", 9, 20), ("ab", 6, 6), ("abc", 4, 4)):
            some = list(some_readers(colours, many, 9, 3))
            for one in some:
                for other in some:
                    self.checked(colours, by_both(colours, one, other), length,
                                 lambda word: takes(colours, one, word) and takes(colours, other, word))
                    self.checked(colours, by_either(colours, one, other), length,
                                 lambda word: takes(colours, one, word) or takes(colours, other, word))

    def test_one_against_takes(self):
        for colours, many, length in (("a", 12, 26), ("ab", 7, 7), ("abc", 5, 5)):
            for one in some_readers(colours, many, 60, 6):
                self.checked(colours, by_none(colours, one), length, lambda word: not takes(colours, one, word))
                self.checked(colours, turned_reader(colours, one, 200), length,
                             lambda word: takes(colours, one, word_turned(word)))

    def test_twelve_rows(self):
        one, other = [some for some in some_readers("ab", 12, 60, 2) if len(some) == 12][:2]
        self.checked("ab", by_both("ab", one, other, 200), 7,
                     lambda word: takes("ab", one, word) and takes("ab", other, word))
        self.checked("ab", by_either("ab", one, other, 200), 7,
                     lambda word: takes("ab", one, word) or takes("ab", other, word))
        self.checked("ab", by_none("ab", one), 7, lambda word: not takes("ab", one, word))

    def test_a_reader_with_itself(self):
        for one in some_readers("ab", 6, 40, 4):
            self.assertEqual(by_both("ab", one, one), least_reader("ab", one))
            self.assertEqual(by_either("ab", one, one), least_reader("ab", one))
            self.assertEqual(by_both("ab", one, by_none("ab", one)), NOTHING)
            self.assertEqual(by_either("ab", one, by_none("ab", one)), ALL)

    def test_twice(self):
        for one in some_readers("ab", 6, 40, 8):
            self.assertEqual(turned_reader("ab", turned_reader("ab", one, 64), 64), least_reader("ab", one))
            self.assertEqual(by_none("ab", by_none("ab", one)), least_reader("ab", one))

    def test_rows_that_are_not_come_to(self):
        odd = ((False, (1, 0)), (True, (0, 1)))
        self.assertEqual(least_reader("ab", IDLE), odd)
        self.assertEqual(by_none("ab", IDLE, 2), EVEN)
        self.assertEqual(turned_reader("ab", IDLE, 2), odd)
        self.assertEqual(by_both("ab", IDLE, ALL, 2), odd)
        self.assertEqual(by_either("ab", NOTHING, IDLE, 2), odd)
        self.assertEqual(by_both("ab", IDLE, EVEN, 1), NOTHING)
        self.assertEqual(turned_reader("ab", ((False, (0, 0)), (True, (0, 1)), (True, (2, 1))), 1), NOTHING)


class Boards(unittest.TestCase):
    def test_the_reader_of_a_board_turned_about(self):
        for board in BOARDS + list(WIDE):
            for colours in ("a", "ab", "abc"):
                self.assertEqual(turned_reader(colours, reader(board, colours)), reader(board_turned(board), colours))

    def test_the_reader_of_boards_joined_takes_at_least_the_words_of_either(self):
        for one in BOARDS[::2]:
            for other in BOARDS[::3]:
                both, either = reader(joined(one, other), "ab"), by_either("ab", reader(one, "ab"), reader(other, "ab"))
                self.assertEqual(by_both("ab", both, either), either)
                self.assertEqual(by_either("ab", both, either), both)

    def test_of_boards_that_fix_each_others_words(self):
        one, other = reader(("ab", "b", "ba"), "ab"), reader(("ba", "b", "ab"), "ab")
        self.assertEqual(by_both("ab", one, by_none("ab", other)), NOTHING)


class Most(unittest.TestCase):
    def refused(self, most, asked, *things):
        with self.assertRaises(TooMany) as caught:
            asked(*things)
        self.assertEqual(caught.exception.most, most)

    def test_just_enough_and_one_less(self):
        some = list(some_readers("ab", 6, 12, 5)) + [IDLE, EVEN]
        for one in some:
            for asked in (by_none, turned_reader):
                told = asked("ab", one, 100)
                self.assertEqual(asked("ab", one, len(told)), told)
                self.refused(len(told) - 1, asked, "ab", one, len(told) - 1)
            for other in some:
                for asked in (by_both, by_either):
                    told = asked("ab", one, other, 100)
                    self.assertEqual(asked("ab", one, other, len(told)), told)
                    self.refused(len(told) - 1, asked, "ab", one, other, len(told) - 1)

    def test_sixty_if_nothing_is_said(self):
        self.assertEqual(len(by_both("a", ring(6), ring(20))), 60)
        self.assertEqual(len(by_both("a", ring(4), ring(15))), 60)
        self.refused(60, by_both, "a", ring(7), ring(9))
        self.assertEqual(len(by_both("a", ring(7), ring(9), 63)), 63)
        self.assertEqual(len(by_either("a", ring(5), ring(12))), 60)
        self.refused(60, by_either, "a", ring(7), ring(9))
        for asked in (by_none, turned_reader):
            self.assertEqual(len(asked("a", ring(60))), 60)
            self.refused(60, asked, "a", ring(61))
            self.assertEqual(len(asked("a", ring(61), 61)), 61)

    def test_great_readers(self):
        self.assertEqual(len(by_both("a", ring(60), ring(30))), 60)
        for asked in (by_both, by_either):
            self.refused(60, asked, "a", ring(59), ring(60))
            self.refused(7, asked, "a", ring(59), ring(60), 7)

    def test_turned_about_there_may_be_far_more_rows(self):
        self.assertEqual(turned_reader("ab", ahead(5)), least_reader("ab", behind(5)))
        self.assertEqual(turned_reader("ab", behind(5)), ahead(5))
        self.refused(60, turned_reader, "ab", ahead(6))
        self.assertEqual(turned_reader("ab", ahead(6), 64), least_reader("ab", behind(6)))
        self.assertEqual(len(least_reader("ab", behind(6))), 64)
        # Where there would be more rows than can be made it is refused as well.
        self.refused(60, turned_reader, "ab", ahead(50))
