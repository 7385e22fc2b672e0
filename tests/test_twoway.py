"""Two-way readers: points 32 and 34."""

import unittest
from itertools import combinations

from tests.samples import all_words, some_two_way, two_way_stands
from walktold.twoway import is_two_way, two_takes, two_way_of
from walktold.zigzags import zigzag

BOARDS = [board for many in range(4) for board in combinations(all_words("ab", 3)[1:], many)][::7]
WIDE = (("aa", "aba", "aaab", "baba"), ("baab", "abaa", "baa", "aaba"), ("aab", "aba", "aaba"), ("a", "aaba"),
        ("aa", "aaa", "abba"), ("acca", "caaa", "acc", "aac"), ("ab", "b", "bc", "cab"),
        ("abcabc", "cab", "bca", "c", "bcabca", "aaaaaa"))


def plainly_takes(two, word):
    return any(place == len(word) and two[row][0] for place, row in two_way_stands(two, word, (0, 0)))


class IsTwoWay(unittest.TestCase):
    def test_those_that_are(self):
        for two in (((True, ()),), ((False, ()), (True, ())), ((True, ((1, "a", 0), (-1, "b", 0))),),
                    ((False, ((1, "a", 1), (1, "a", 1), (-1, "a", 0))), (True, ((-1, "b", 1),)))):
            self.assertIs(is_two_way("ab", two), True)

    def test_no_rows(self):
        self.assertIs(is_two_way("ab", ()), False)
        self.assertIs(is_two_way("a", ()), False)

    def test_ways(self):
        for way in (0, 2, -2, 10 ** 20, -1000):
            self.assertIs(is_two_way("ab", ((True, ((way, "a", 0),)),)), False)
            self.assertIs(is_two_way("ab", ((True, ((1, "a", 0), (-1, "b", 1))), (False, ((way, "b", 1),)))), False)

    def test_colours(self):
        for colour in ("c", "", "ab", "aa", "A", " ", "ba"):
            for way in (1, -1):
                self.assertIs(is_two_way("ab", ((True, ((way, colour, 0),)),)), False)
                self.assertIs(is_two_way("ab", ((True, ((1, "a", 0), (way, colour, 0))),)), False)
        self.assertIs(is_two_way("b", ((True, ((1, "a", 0),)),)), False)
        self.assertIs(is_two_way("abc", ((True, ((1, "c", 0),)),)), True)

    def test_rows(self):
        for row in (1, 2, -1, -2, 10 ** 20):
            self.assertIs(is_two_way("ab", ((True, ((1, "a", row),)),)), False)
        for row in (2, -1, -2, 3):
            self.assertIs(is_two_way("ab", ((True, ((1, "a", 1),)), (False, ((-1, "a", row),)))), False)

    def test_told_ones(self):
        for two in some_two_way(4, "ab", 5, 40):
            self.assertIs(is_two_way("ab", two), True)
            self.assertIs(is_two_way("abc", two), True)


class TwoTakes(unittest.TestCase):
    def test_at_once(self):
        self.assertIs(two_takes("ab", ((True, ()),), ""), True)
        self.assertIs(two_takes("ab", ((False, ()),), ""), False)
        self.assertIs(two_takes("ab", ((True, ()),), "a"), False)
        self.assertIs(two_takes("ab", ((False, ()), (True, ())), ""), False)

    def test_one_way_on(self):
        two = ((False, ((1, "a", 1),)), (True, ((1, "b", 0),)))
        self.assertEqual([word for word in all_words("ab", 5) if two_takes("ab", two, word)], ["a", "aba", "ababa"])

    def test_several_goings_by_one_colour(self):
        # Some going has to lead there, not each.
        two = ((False, ((1, "a", 0), (1, "b", 0), (1, "a", 1))), (False, ((1, "b", 2),)), (True, ()))
        self.assertEqual([word for word in all_words("ab", 3) if two_takes("ab", two, word)], ["ab", "aab", "bab"])

    def test_the_last_place_is_asked(self):
        two = ((False, ((1, "a", 1),)), (True, ()))
        self.assertIs(two_takes("a", two, "a"), True)
        self.assertIs(two_takes("a", two, "aa"), False)

    def test_goings_back(self):
        # On along `ab`, back along `b`, on along `ba`.
        two = ((False, ((1, "a", 1),)), (False, ((1, "b", 2),)), (False, ((-1, "b", 3),)), (False, ((1, "b", 4),)),
               (False, ((1, "a", 5),)), (True, ()))
        self.assertEqual([word for word in all_words("ab", 4) if two_takes("ab", two, word)], ["aba"])

    def test_back_by_the_colour_behind(self):
        # From behind `a`, ahead of `b`, back by `a` alone.
        for colour, taken in (("a", True), ("b", False)):
            two = ((False, ((1, "a", 1),)), (False, ((-1, colour, 2),)), (False, ((1, "a", 3),)),
                   (False, ((1, "b", 4),)), (True, ()))
            self.assertIs(two_takes("ab", two, "ab"), taken)

    def test_no_going_back_from_place_0(self):
        for word in ("a", "b", "ab", "ba", "bb"):
            two = ((False, ((-1, "a", 1), (-1, "b", 1))), (True, ((1, "a", 1), (1, "b", 1), (-1, "a", 1))))
            self.assertIs(two_takes("ab", two, word), False)

    def test_goings_that_never_end(self):
        two = ((False, ((1, "a", 1),)), (False, ((-1, "a", 0),)), (True, ()))
        for word in ("", "a", "aa", "a" * 12):
            self.assertIs(two_takes("a", two, word), False)
        two = ((False, ((1, "a", 1),)), (False, ((-1, "a", 0), (1, "a", 1), (-1, "a", 2))), (True, ((1, "a", 2),)))
        self.assertEqual([two_takes("a", two, "a" * many) for many in range(4)], [False, True, True, True])

    def test_back_and_on_to_another_row(self):
        # The first colour is asked again from behind the second one.
        two = ((False, ((1, "a", 1), (1, "b", 1))), (False, ((1, "a", 2), (1, "b", 2))),
               (False, ((-1, "a", 3), (-1, "b", 3))), (False, ((-1, "b", 4),)), (False, ((1, "b", 5),)),
               (True, ((1, "a", 5), (1, "b", 5))))
        self.assertEqual([word for word in all_words("ab", 3) if two_takes("ab", two, word)],
                         [word for word in all_words("ab", 3) if len(word) > 1 and word[0] == "b"])

    def test_against_stands_found_plainly(self):
        for number, two in enumerate(some_two_way(4, "ab", 5, 150)):
            for word in all_words("ab", 5):
                self.assertIs(two_takes("ab", two, word), plainly_takes(two, word), (number, two, word))
        for two in some_two_way(3, "abc", 4, 40, 5):
            for word in all_words("abc", 3) + ["abcabcabcabc", "aabbccaabbcc", "cbacbacbaabc"]:
                self.assertIs(two_takes("abc", two, word), plainly_takes(two, word), (two, word))


class TwoWayOf(unittest.TestCase):
    def test_the_board_without_words(self):
        for colours in ("a", "abc"):
            two = two_way_of((), colours)
            self.assertEqual([word for word in all_words(colours, 3) if two_takes(colours, two, word)], [""])
            self.assertEqual(len(two), 1)

    def test_it_is_one_with_few_rows(self):
        for board in BOARDS + list(WIDE):
            for colours in ("a", "ab", "abc", "bz"):
                two = two_way_of(board, colours)
                self.assertIs(is_two_way(colours, two), True)
                self.assertLessEqual(len(two), 1 + 2 * sum(len(word) for word in board))

    def test_against_zigzag(self):
        for board in BOARDS:
            two = two_way_of(board, "ab")
            for word in all_words("ab", 6):
                self.assertIs(two_takes("ab", two, word), zigzag(board, word) is not None, (board, word))

    def test_wide_boards_against_zigzag(self):
        for board in WIDE:
            two = two_way_of(board, "abc")
            for word in all_words("abc", 5) + ["aabaabaaaba", "abaababaabab", "accaaccaaacc", "abcabcabcabc"]:
                self.assertIs(two_takes("abc", two, word), zigzag(board, word) is not None, (board, word))

    def test_colours_of_the_board_that_are_not_asked(self):
        for board in BOARDS + list(WIDE) + [("ab", "b"), ("a", "xy", "xyz"), ("aa", "za", "az", "aza")]:
            for colours in ("a", "b", "bc", "ac"):
                two = two_way_of(board, colours)
                self.assertIs(is_two_way(colours, two), True)
                for word in all_words(colours, 4):
                    self.assertIs(two_takes(colours, two, word), zigzag(board, word) is not None, (board, word))

    def test_colours_that_no_word_has(self):
        two = two_way_of(("ab", "b"), "abz")
        self.assertEqual([word for word in all_words("abz", 3) if two_takes("abz", two, word)],
                         ["", "b", "ab", "bb", "abb", "bab", "bbb"])
