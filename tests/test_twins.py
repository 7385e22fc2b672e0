"""Two maps that a board can't tell apart: points 14 and 15."""

import unittest
from itertools import combinations

from tests.samples import all_maps, all_words, some_maps
from walktold.errors import IsFixed
from walktold.maps import look_map
from walktold.places import lands
from walktold.tables import table
from walktold.twins import part, twins
from walktold.zigzags import zigzag

BOARDS = [board for many in range(4) for board in combinations(all_words("ab", 3)[1:], many)][::4]


class Twins(unittest.TestCase):
    def test_the_board_without_words(self):
        self.assertEqual(twins((), "a"), (
            (4, ((0, "a", 2), (1, "a", 3))),
            (4, ((0, "a", 3), (1, "a", 2))),
        ))
        self.assertEqual(twins((), "ab"), (
            (6, ((0, "a", 2), (1, "a", 3), (2, "b", 4), (3, "b", 5))),
            (6, ((0, "a", 3), (1, "a", 2), (2, "b", 4), (3, "b", 5))),
        ))

    def test_crossed_behind_the_land_of_place_0(self):
        self.assertEqual(twins(("a",), "ab"), (
            (6, ((0, "a", 2), (1, "a", 3), (2, "b", 4), (3, "b", 5))),
            (6, ((0, "a", 2), (1, "a", 3), (2, "b", 5), (3, "b", 4))),
        ))

    def test_crossed_where_the_land_is_left_and_come_to_again(self):
        self.assertEqual(twins(("ab",), "abc"), (
            (8, ((0, "a", 2), (1, "a", 3), (2, "b", 4), (3, "b", 5), (4, "c", 6), (5, "c", 7))),
            (8, ((0, "a", 3), (1, "a", 2), (2, "b", 5), (3, "b", 4), (4, "c", 7), (5, "c", 6))),
        ))

    def test_straight_between_lands_that_are_not_that_of_place_0(self):
        self.assertEqual(twins(("bc",), "abcd")[1], (
            10, ((0, "a", 3), (1, "a", 2), (2, "b", 4), (3, "b", 5), (4, "c", 6), (5, "c", 7), (6, "d", 8), (7, "d", 9)),
        ))

    def test_colours_that_no_word_of_the_board_has(self):
        self.assertEqual(twins(("a", "b"), "z"), (
            (4, ((0, "z", 2), (1, "z", 3))),
            (4, ((0, "z", 3), (1, "z", 2))),
        ))
        self.assertEqual(twins(("a",), "aza")[1], (
            8, ((0, "a", 2), (1, "a", 3), (2, "z", 5), (3, "z", 4), (4, "a", 6), (5, "a", 7)),
        ))

    def test_fixed_words_are_refused(self):
        for board, word in (((), ""), (("a",), ""), (("a",), "a"), (("a",), "aaa"), (("ab", "b", "bc"), "abc"),
                            (("aaa", "aaaa"), "aaaaa")):
            with self.subTest(board=board, word=word):
                with self.assertRaises(IsFixed):
                    twins(board, word)

    def test_many_words(self):
        for board in BOARDS:
            for word in all_words("ab", 4):
                if zigzag(board, word) is not None:
                    with self.assertRaises(IsFixed):
                        twins(board, word)
                    continue
                land = lands(board, word)
                one, other = twins(board, word)
                many = 2 * len(word) + 2
                straight = []
                crossed = []
                for place, colour in enumerate(word):
                    low = 2 * place
                    straight += [(low, colour, low + 2), (low + 1, colour, low + 3)]
                    if [land[place], land[place + 1]].count(0) == 1:
                        crossed += [(low, colour, low + 3), (low + 1, colour, low + 2)]
                    else:
                        crossed += straight[-2:]
                self.assertEqual((one, other), ((many, tuple(straight)), (many, tuple(crossed))))
                self.assertTrue(look_map(one) and look_map(other))
                self.assertEqual(table(one, word), ((0, many - 2), (1, many - 1)))
                self.assertEqual(table(other, word), ((0, many - 1), (1, many - 2)))
                for known in board:
                    self.assertEqual(table(one, known), table(other, known))

    def test_a_long_word(self):
        word = "abcabcabcabc"
        one, other = twins(("abc", "cab", "bcabc"), word[:11] + "a")
        self.assertEqual((one[0], len(one[1])), (26, 24))
        self.assertIs(part(("abc", "cab", "bcabc"), word[:11] + "a", one, other), True)


class Part(unittest.TestCase):
    one = (3, ((0, "a", 1), (1, "b", 2)))
    other = (3, ((0, "a", 1), (2, "b", 2)))

    def test_unlike_tables_of_the_word(self):
        self.assertIs(part((), "ab", self.one, self.other), True)
        self.assertIs(part(("a",), "ab", self.one, self.other), True)
        self.assertIs(part(("a", "aa", "ba"), "b", self.one, self.other), True)

    def test_both_orders(self):
        self.assertIs(part(("a",), "ab", self.other, self.one), True)
        self.assertIs(part(("b",), "ab", self.other, self.one), False)

    def test_unlike_tables_of_a_word_of_the_board(self):
        for board in (("b",), ("a", "b"), ("b", "a"), ("ab",), ("a", "aa", "bb")):
            self.assertIs(part(board, "ab", self.one, self.other), False)

    def test_the_same_tables_of_the_word(self):
        for word in ("", "a", "aa", "ba", "c"):
            self.assertIs(part((), word, self.one, self.other), False)
            self.assertIs(part(("a",), word, self.one, self.other), False)

    def test_a_map_with_itself(self):
        for chart in (self.one, self.other, (1, ())):
            for word in ("", "a", "ab"):
                self.assertIs(part((), word, chart, chart), False)

    def test_unlike_numbers_of_rooms(self):
        greater = (4, self.one[1])
        for word in ("", "a", "ab", "b"):
            self.assertIs(part((), word, self.one, greater), False)
            self.assertIs(part((), word, greater, self.one), False)
        # Here the tables of the word are unlike, too, and those of the board are the same.
        self.assertIs(part(("a",), "b", greater, self.other), False)
        self.assertIs(part(("a",), "b", self.other, greater), False)
        self.assertIs(part(("a",), "", (2, ()), (3, ())), False)

    def test_great_maps(self):
        ring = tuple((room, "a", (room + 1) % 26) for room in range(26))
        other = ring[:25] + ((25, "a", 25),)
        self.assertIs(part((), "a", (26, ring), (26, other)), True)
        self.assertIs(part(("b",), "a" * 12, (26, ring), (26, other)), True)
        self.assertIs(part(("a",), "a" * 12, (26, ring), (26, other)), False)
        full = tuple((x, "a", y) for x in range(26) for y in range(26))
        self.assertIs(part(("aa",), "a" * 12, (26, full), (26, full[1:])), False)
        self.assertIs(part(("aa",), "a", (26, full), (26, full[1:])), True)

    def test_no_maps_part_a_fixed_word(self):
        charts = list(all_maps(2, "ab"))[::3]
        for one in charts:
            for other in charts:
                self.assertIs(part(("ab", "b", "ba"), "aba", one, other), False)
                self.assertIs(part(("a", "b"), "abba", one, other), False)

    def test_against_the_words_of_the_document(self):
        charts = list(some_maps(2, "ab", 25)) + [(3, ()), (3, ((0, "a", 1),))]
        board = ("a", "bb")
        for one in charts:
            for other in charts:
                for word in ("", "b", "ab", "abba"):
                    same = [table(one, known) == table(other, known) for known in board]
                    parted = one[0] == other[0] and all(same) and table(one, word) != table(other, word)
                    self.assertIs(part(board, word, one, other), parted)
