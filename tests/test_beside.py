"""Maps beside one another: points 3 and 27."""

import unittest

from tests.samples import all_words, some_maps
from walktold.beside import maps_beside
from walktold.maps import look_map
from walktold.steps import steps_of
from walktold.tables import board_tables, table
from walktold.turning import map_turned
from walktold.twins import part, twins
from walktold.workings import worked_out
from walktold.zigzags import zigzag


def both(many, one, other):
    """The pairs of both tables, those of the second with many added to each room."""
    return tuple(sorted(one + tuple((x + many, y + many) for x, y in other)))


class Beside(unittest.TestCase):
    def test_maps_without_streets(self):
        self.assertEqual(maps_beside((1, ()), (1, ())), (2, ()))
        self.assertEqual(maps_beside((3, ()), (5, ())), (8, ()))
        self.assertEqual(maps_beside((3, ()), (1, ((0, "a", 0),))), (4, ((3, "a", 3),)))
        self.assertEqual(maps_beside((1, ((0, "a", 0),)), (3, ())), (4, ((0, "a", 0),)))

    def test_the_seconds_rooms_are_numbered_on(self):
        one = (2, ((0, "b", 1), (1, "a", 0)))
        other = (3, ((0, "a", 2), (0, "b", 0), (2, "a", 1)))
        self.assertEqual(maps_beside(one, other),
                         (5, ((0, "b", 1), (1, "a", 0), (2, "a", 4), (2, "b", 2), (4, "a", 3))))
        self.assertEqual(maps_beside(other, one),
                         (5, ((0, "a", 2), (0, "b", 0), (2, "a", 1), (3, "b", 4), (4, "a", 3))))

    def test_a_map_beside_itself(self):
        chart = (2, ((0, "a", 1),))
        self.assertEqual(maps_beside(chart, chart), (4, ((0, "a", 1), (2, "a", 3))))

    def test_rooms_without_streets_count(self):
        self.assertEqual(maps_beside((7, ((0, "a", 1),)), (2, ((1, "a", 0),))), (9, ((0, "a", 1), (8, "a", 7))))

    def test_three_maps_in_either_order(self):
        for one, other, third in zip(some_maps(2, "ab", 9), some_maps(3, "ab", 9, 5), some_maps(1, "ab", 9, 2)):
            self.assertEqual(maps_beside(maps_beside(one, other), third), maps_beside(one, maps_beside(other, third)))

    def test_a_words_table_is_those_of_both(self):
        for one in some_maps(3, "ab", 12):
            for other in some_maps(2, "abc", 9, 7):
                told = maps_beside(one, other)
                self.assertIs(look_map(told), True)
                for word in all_words("ab", 3) + ["ca", "abab"]:
                    self.assertEqual(table(told, word), both(3, table(one, word), table(other, word)))

    def test_turned_about_they_lie_beside_one_another_too(self):
        for one, other in zip(some_maps(3, "ab", 9), some_maps(2, "ab", 9, 3)):
            self.assertEqual(map_turned(maps_beside(one, other)), maps_beside(map_turned(one), map_turned(other)))

    def test_what_is_fixed_is_worked_out_on_both(self):
        board = ("ab", "b", "ba", "aab")
        words = [word for word in all_words("ab", 6) if zigzag(board, word) is not None]
        for one, other in zip(some_maps(3, "ab", 6), some_maps(4, "ab", 6, 11)):
            told = maps_beside(one, other)
            for word in words:
                steps = steps_of(board, word, zigzag(board, word))
                self.assertEqual(worked_out(7, board_tables(told, board), steps),
                                 both(3, table(one, word), table(other, word)))

    def test_maps_that_part_a_word_do_so_beside_another(self):
        board = ("ab", "b", "ba")
        for word in ("a", "aa", "aab", "baa"):
            one, other = twins(board, word)
            for chart in some_maps(3, "ab", 4):
                self.assertIs(part(board, word, maps_beside(one, chart), maps_beside(other, chart)), True)
                self.assertIs(part(board, word, maps_beside(chart, one), maps_beside(chart, other)), True)
                self.assertIs(part(board, word, maps_beside(one, chart), maps_beside(one, chart)), False)
