"""What is needed, what is enough, how far it is: points 28 and 30."""

import unittest
from itertools import combinations

from tests.samples import all_words, all_zigzags
from walktold.needs import enough, far, needed
from walktold.turning import board_turned, word_turned
from walktold.zigzags import zigzag

BOARDS = [board for many in range(5) for board in combinations(all_words("ab", 3)[1:], many)][::23]
WIDE = (("ab", "b", "ba", "aab", "bb", "abab"), ("aa", "aaa", "aaaaa", "aaaa", "aaaaaa"),
        ("bab", "abb", "a", "ba", "bbab", "aba"), ("abc", "bc", "b", "cab", "ca", "c"))


def fixed(board, word):
    return zigzag(board, word) is not None


def tried(board, word):
    """The fewest numbers that are enough, found by trying all."""
    for many in range(len(board) + 1):
        for numbers in combinations(range(len(board)), many):
            if fixed(tuple(board[number] for number in numbers), word):
                return numbers
    return None


class Needed(unittest.TestCase):
    def test_the_word_without_colours(self):
        for board in ((), ("a",), ("ab", "b", "ba")):
            self.assertEqual(needed(board, ""), ())

    def test_none(self):
        self.assertEqual(needed(("a", "aa"), "aa"), ())
        self.assertEqual(needed(("ab", "a", "b"), "ab"), ())
        self.assertEqual(needed(("aa", "aaa", "a"), "aaaaaaa"), ())

    def test_all(self):
        self.assertEqual(needed(("a",), "a"), (0,))
        self.assertEqual(needed(("a", "b"), "ab"), (0, 1))
        self.assertEqual(needed(("b", "a"), "abab"), (0, 1))
        self.assertEqual(needed(("ab", "b", "bc"), "abc"), (0, 1, 2))

    def test_some(self):
        self.assertEqual(needed(("c", "a", "b"), "ab"), (1, 2))
        self.assertEqual(needed(("a", "ab", "b", "c"), "abc"), (3,))
        self.assertEqual(needed(("ab", "a", "b", "bc"), "abbc"), (3,))
        self.assertEqual(needed(("aba", "ab", "ba"), "abab"), (1,))
        self.assertEqual(needed(("aa", "aaa", "aaaa"), "aaaaaaa"), (1,))

    def test_against_boards_without_one_word(self):
        for board in BOARDS + list(WIDE):
            for word in all_words("ab", 5):
                if fixed(board, word):
                    without = [board[:at] + board[at + 1:] for at in range(len(board))]
                    self.assertEqual(needed(board, word),
                                     tuple(at for at, rest in enumerate(without) if not fixed(rest, word)))


class Enough(unittest.TestCase):
    def test_the_word_without_colours(self):
        for board in ((), ("a",), ("ab", "b", "ba")):
            self.assertEqual(enough(board, ""), ())

    def test_none_where_it_is_not_fixed(self):
        self.assertIsNone(enough((), "a"))
        self.assertIsNone(enough(("a",), "b"))
        self.assertIsNone(enough(("ab", "bc"), "abc"))
        self.assertIsNone(enough(("aa", "aaaa"), "aaa"))

    def test_the_fewest(self):
        self.assertEqual(enough(("a", "b", "ab"), "ab"), (2,))
        self.assertEqual(enough(("a", "b", "ab"), "abb"), (0, 1))
        self.assertEqual(enough(("a", "b", "c", "abc"), "abc"), (3,))
        self.assertEqual(enough(("a",), "aaaa"), (0,))
        self.assertEqual(enough(("ab", "b", "bc"), "abc"), (0, 1, 2))

    def test_of_several_the_least(self):
        self.assertEqual(enough(("a", "aa", "aaa", "aaaaaa"), "aaaaaa"), (0,))
        self.assertEqual(enough(("aaaaa", "aa", "aaa"), "aaaaaa"), (1,))
        self.assertEqual(enough(("b", "c", "ab", "a", "bc"), "abc"), (1, 2))
        self.assertEqual(enough(("bc", "c", "a", "ab"), "abc"), (0, 2))
        self.assertEqual(enough(("ab", "b", "c", "a", "bc"), "abc"), (0, 2))

    def test_fewer_words_may_need_more_steps(self):
        board = ("aaaaa", "aaaa", "a")
        self.assertEqual(zigzag(board, "aaaaaa"), (0, 1, 6))
        self.assertEqual(enough(board, "aaaaaa"), (2,))

    def test_against_all_tried(self):
        for board in BOARDS + list(WIDE):
            for word in all_words("ab", 5) + ["aaaaaaa", "abababab", "bababbab", "abcabc", "cabcab"]:
                self.assertEqual(enough(board, word), tried(board, word), (board, word))

    def test_long_words(self):
        word = "abbabaababba"
        for board in (("ab", "ba", "b", "aab", "abba", "bab"), ("abba", "baab", "abb", "bba", "aba", "ab")):
            self.assertEqual(enough(board, word), tried(board, word))


class Far(unittest.TestCase):
    def test_the_word_without_colours(self):
        self.assertEqual(far((), ""), (0,))
        self.assertEqual(far(("a",), ""), (0,))

    def test_places_that_are_not_come_to(self):
        self.assertEqual(far((), "ab"), (0, -1, -1))
        self.assertEqual(far(("ab",), "abab"), (0, -1, 1, -1, 2))
        self.assertEqual(far(("b",), "abb"), (0, -1, -1, -1))
        self.assertEqual(far(("a",), "aba"), (0, 1, -1, -1))

    def test_farther_on_and_back_again(self):
        self.assertEqual(far(("ab", "b", "bc"), "abc"), (0, 2, 1, 3))
        self.assertEqual(far(("aaa", "aa"), "aaaa"), (0, 2, 1, 1, 2))
        self.assertEqual(far(("aaaaa", "aaa"), "aaaaaaa"), (0, 3, 2, 1, 4, 1, 2, 3))

    def test_the_fewest_steps(self):
        self.assertEqual(far(("a", "aaa"), "aaaaa"), (0, 1, 2, 1, 2, 3))
        self.assertEqual(far(("a",), "aaaa"), (0, 1, 2, 3, 4))

    def test_as_many_as_the_zigzag_has(self):
        for board in BOARDS + list(WIDE):
            for word in all_words("ab", 6):
                places = zigzag(board, word)
                self.assertEqual(far(board, word)[-1], -1 if places is None else len(places) - 1)

    def test_against_ways_tried_one_by_one(self):
        for board in BOARDS[::2]:
            for word in ("aba", "abba", "aabb", "baab"):
                told = far(board, word)
                self.assertEqual(len(told), len(word) + 1)
                ways = {(0,)}
                steps = [-1] * (len(word) + 1)
                for number in range(len(word) + 1):
                    for way in ways:
                        if steps[way[-1]] == -1:
                            steps[way[-1]] = number
                    ways = {way + (place,) for way in ways for place in range(len(word) + 1) if place not in way
                            and word[min(place, way[-1]):max(place, way[-1])] in board}
                self.assertEqual(told, tuple(steps))

    def test_turned_about_the_whole_way_is_as_far(self):
        for board in WIDE:
            for word in all_words("ab", 5):
                self.assertEqual(far(board, word)[-1], far(board_turned(board), word_turned(word))[-1])


class Known(unittest.TestCase):
    def test_what_is_needed_is_in_what_is_enough(self):
        for board in BOARDS:
            for word in all_words("ab", 5):
                if fixed(board, word):
                    self.assertLessEqual(set(needed(board, word)), set(enough(board, word)))
                    self.assertTrue(all_zigzags(tuple(board[k] for k in enough(board, word)), word, 8))
