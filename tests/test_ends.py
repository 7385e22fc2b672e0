"""The ends of words by a two-way reader: point 33."""

import unittest

from tests.samples import all_words, some_two_way, two_way_stands
from walktold.ends import ends_of
from walktold.twoway import two_takes, two_way_of


def plain_ends(two, word):
    """The ends found by walking all places from each stand."""
    def at_last(begin):
        return sorted(row for place, row in two_way_stands(two, word, begin) if place == len(word))
    return (tuple(at_last((0, 0))),
            tuple((row, other) for row in range(len(two)) for other in at_last((len(word), row))))


class Ends(unittest.TestCase):
    def test_the_word_without_colours(self):
        self.assertEqual(ends_of("a", ((True, ()),), ""), ((0,), ((0, 0),)))
        two = ((False, ((1, "a", 1), (-1, "a", 2))), (True, ((-1, "a", 0),)), (False, ((1, "a", 0),)))
        self.assertEqual(ends_of("a", two, ""), ((0,), ((0, 0), (1, 1), (2, 2))))

    def test_nothing_is_come_to(self):
        two = ((True, ((1, "a", 1),)), (True, ()))
        self.assertEqual(ends_of("ab", two, "b"), ((), ((0, 0), (1, 1))))
        self.assertEqual(ends_of("ab", two, "a"), ((1,), ((0, 0), (1, 1))))
        self.assertEqual(ends_of("ab", two, "aa"), ((), ((0, 0), (1, 1))))

    def test_rows_that_are_come_to_only_by_going_back(self):
        two = ((False, ((1, "a", 1),)), (False, ((-1, "a", 2),)), (True, ((1, "a", 3),)), (False, ()))
        self.assertEqual(ends_of("a", two, "a"), ((1, 3), ((0, 0), (1, 1), (1, 3), (2, 2), (3, 3))))
        # One more going back leads from row 3 to where row 0 leads on.
        two = two[:3] + ((False, ((-1, "a", 0),)),)
        self.assertEqual(ends_of("a", two, "a"), ((1, 3), ((0, 0), (1, 1), (1, 3), (2, 2), (3, 1), (3, 3))))

    def test_far_back(self):
        two = ((False, ((1, "a", 0), (-1, "b", 1))), (False, ((-1, "b", 1), (-1, "a", 2))),
               (False, ((1, "a", 3),)), (True, ((1, "b", 3),)))
        self.assertEqual(ends_of("ab", two, "abb"), ((), ((0, 0), (0, 3), (1, 1), (1, 3), (2, 2), (3, 3))))
        self.assertEqual(ends_of("ab", two, "bb"), ((), ((0, 0), (1, 1), (2, 2), (3, 3))))

    def test_this_words_places_alone(self):
        # From the first place there is no way back, from the last none on.
        two = ((False, ((-1, "a", 1), (1, "a", 0))), (True, ((1, "a", 1), (1, "b", 2))), (False, ((-1, "b", 0),)))
        self.assertEqual(ends_of("ab", two, "a"), ((0, 1), ((0, 0), (0, 1), (1, 1), (2, 2))))

    def test_each_row_with_itself(self):
        for two in some_two_way(4, "ab", 5, 30):
            for word in all_words("ab", 3):
                come, table = ends_of("ab", two, word)
                self.assertLessEqual({(row, row) for row in range(len(two))}, set(table))
                self.assertEqual((come, table), (tuple(sorted(set(come))), tuple(sorted(set(table)))))

    def test_against_stands_found_plainly(self):
        for two in some_two_way(4, "ab", 5, 120, 3):
            for word in all_words("ab", 4) + ["abaabbab", "bbaababa"]:
                self.assertEqual(ends_of("ab", two, word), plain_ends(two, word), (two, word))
        for two in some_two_way(3, "abc", 4, 40, 8):
            for word in all_words("abc", 3):
                self.assertEqual(ends_of("abc", two, word), plain_ends(two, word), (two, word))

    def test_of_boards(self):
        for board in ((), ("ab", "b", "ba"), ("aab", "aba", "aaba"), ("abcabc", "cab", "bca", "c", "aaaaaa")):
            two = two_way_of(board, "abc")
            for word in ("", "a", "aba", "aabaaba", "abcabcabcabc"):
                self.assertEqual(ends_of("abc", two, word), plain_ends(two, word), (board, word))

    def test_a_mark_come_to_is_taken(self):
        for two in some_two_way(4, "ab", 5, 60, 9):
            for word in all_words("ab", 4):
                self.assertIs(any(two[row][0] for row in ends_of("ab", two, word)[0]), two_takes("ab", two, word))

    def test_words_of_the_same_ends_go_on_alike(self):
        for two in some_two_way(3, "ab", 4, 30, 4):
            words = {}
            for word in all_words("ab", 4):
                words.setdefault(ends_of("ab", two, word), []).append(word)
            for alike in words.values():
                for rest in all_words("ab", 2):
                    self.assertEqual(len({ends_of("ab", two, word + rest) for word in alike}), 1)
