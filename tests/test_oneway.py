"""Two-way readers made one-way: points 3 and 34."""

import unittest
from itertools import combinations

from tests.samples import all_words, is_least, some_two_way
from walktold.errors import TooMany
from walktold.oneway import one_way
from walktold.readers import reader
from walktold.reading import is_reader, taken_words
from walktold.twoway import two_takes, two_way_of

BOARDS = [board for many in range(4) for board in combinations(all_words("ab", 3)[1:], many)][::7]
WIDE = (("aa", "aba", "aaab", "baba"), ("baab", "abaa", "baa", "aaba"), ("aab", "aba", "aaba"), ("a", "aaba"),
        ("aa", "aaa", "abba"), ("acca", "caaa", "acc", "aac"), ("ab", "b", "bc", "cab"), ("a", "abba", "babb", "bbab"),
        ("aaaa", "bbbb", "cccc", "abca"))


def ring(many):
    """A reader, two-way by its form, of the words of `a` whose number of colours so many part evenly."""
    return tuple((row == 0, ((1, "a", (row + 1) % many),)) for row in range(many))


class OneWay(unittest.TestCase):
    def test_at_once(self):
        self.assertEqual(one_way("a", ((True, ()),)), ((True, (1,)), (False, (1,))))
        self.assertEqual(one_way("ab", ((True, ((1, "b", 0), (1, "a", 0))),)), ((True, (0, 0)),))
        self.assertEqual(one_way("abc", ((True, ((-1, "a", 0),)),)), ((True, (1, 1, 1)), (False, (1, 1, 1))))

    def test_never_to_a_mark(self):
        nothing = ((False, (0, 0)),)
        self.assertEqual(one_way("ab", ((False, ()),)), nothing)
        self.assertEqual(one_way("ab", ((False, ((1, "a", 0), (1, "b", 0), (-1, "a", 0))),)), nothing)
        self.assertEqual(one_way("ab", ((False, ((1, "a", 0),)), (True, ((1, "a", 1), (1, "b", 1))))), nothing)
        self.assertEqual(one_way("ab", ((False, ((-1, "a", 1),)), (True, ((1, "a", 1),)))), nothing)

    def test_goings_that_never_end(self):
        two = ((False, ((1, "a", 1),)), (False, ((-1, "a", 0), (1, "b", 2))), (True, ((-1, "b", 1),)))
        self.assertEqual(one_way("ab", two), ((False, (1, 2)), (False, (2, 3)), (False, (2, 2)), (True, (2, 2))))

    def test_words_looked_at_twice(self):
        # The first colour is asked from behind the second one: all words of two colours or more that begin with `b`.
        two = ((False, ((1, "a", 1), (1, "b", 1))), (False, ((1, "a", 2), (1, "b", 2))),
               (False, ((-1, "a", 3), (-1, "b", 3))), (False, ((-1, "b", 4),)), (False, ((1, "b", 5),)),
               (True, ((1, "a", 5), (1, "b", 5))))
        self.assertEqual(one_way("ab", two), ((False, (1, 2)), (False, (1, 1)), (False, (3, 3)), (True, (3, 3))))

    def test_colours_that_lead_nowhere(self):
        self.assertEqual(one_way("abz", ((True, ((1, "a", 0), (1, "b", 0))),)), ((True, (0, 0, 1)), (False, (1, 1, 1))))

    def test_against_two_takes(self):
        for colours, many, goings, length, number in (("a", 4, 5, 12, 60), ("ab", 4, 5, 6, 150), ("abc", 3, 4, 4, 60)):
            for two in some_two_way(many, colours, goings, number, 7):
                told = one_way(colours, two)
                self.assertIs(is_reader(colours, told), True)
                self.assertTrue(is_least(colours, told), two)
                self.assertEqual(taken_words(colours, told, length),
                                 [word for word in all_words(colours, length) if two_takes(colours, two, word)], two)

    def test_of_a_board_it_is_the_boards_reader(self):
        for board in BOARDS:
            for colours in ("a", "ab", "bc"):
                self.assertEqual(one_way(colours, two_way_of(board, colours)), reader(board, colours), (board, colours))
        for board in WIDE:
            for colours in ("a", "ab", "abc", "acz", "xyz"):
                self.assertEqual(one_way(colours, two_way_of(board, colours)), reader(board, colours), (board, colours))


class Most(unittest.TestCase):
    def refused(self, most, *things):
        with self.assertRaises(TooMany) as caught:
            one_way(*things)
        self.assertEqual(caught.exception.most, most)

    def test_just_enough_and_one_less(self):
        for two in some_two_way(4, "ab", 5, 40, 2):
            told = one_way("ab", two)
            self.assertEqual(one_way("ab", two, len(told)), told)
            self.refused(len(told) - 1, "ab", two, len(told) - 1)
        for board in WIDE:
            told = reader(board, "abc")
            self.assertEqual(one_way("abc", two_way_of(board, "abc"), len(told)), told)
            self.refused(len(told) - 1, "abc", two_way_of(board, "abc"), len(told) - 1)

    def test_rows_count_only_when_it_is_the_least(self):
        two = ((True, ((1, "a", 1), (-1, "a", 2))), (True, ((1, "a", 2),)), (True, ((1, "a", 0),)))
        self.assertEqual(one_way("a", two, 1), ((True, (0,)),))

    def test_sixty_if_nothing_is_said(self):
        self.assertEqual(len(one_way("a", ring(60))), 60)
        self.refused(60, "a", ring(61))
        self.assertEqual(len(one_way("a", ring(61), 61)), 61)
