"""Tables worked out by steps: points 12 and 3."""

import unittest
from itertools import product

from tests.samples import all_maps, all_zigzags, some_maps
from walktold.steps import steps_of, walked
from walktold.tables import board_tables, every, over, table
from walktold.workings import worked_out
from walktold.zigzags import zigzag

FIXED = [
    (("ab", "b", "bc"), "abc"), (("b", "bc", "ab", "a"), "abc"), (("ab", "b", "ba"), "aba"), (("ab", "ba", "a"), "abab"),
    (("abc", "bc", "bcd"), "abcd"), (("aaa", "aa"), "aaaa"), (("aaaa", "aaa"), "aaaaa"), (("a", "b"), "abba"),
    (("a",), ""), ((), ""), (("ab", "b", "bb", "bba"), "abbba"), (("aab", "ab", "aba"), "aaba"),
]


def charts():
    yield from list(all_maps(2, "ab"))[::3]
    yield from some_maps(3, "abcd", 10)
    yield from some_maps(5, "abc", 10)
    yield from some_maps(8, "abcd", 6)


class WorkedOut(unittest.TestCase):
    def test_no_steps(self):
        self.assertEqual(worked_out(1, (), ()), ((0, 0),))
        self.assertEqual(worked_out(3, (((0, 1),),), ()), ((0, 0), (1, 1), (2, 2)))

    def test_on(self):
        tables = (((0, 1), (1, 2)), ((2, 0),))
        self.assertEqual(worked_out(3, tables, (("on", 0),)), ((0, 1), (1, 2)))
        self.assertEqual(worked_out(3, tables, (("on", 0), ("on", 0))), ((0, 2),))
        self.assertEqual(worked_out(3, tables, (("on", 0), ("on", 1))), ((1, 0),))
        self.assertEqual(worked_out(3, tables, (("on", 1), ("on", 0))), ((2, 1),))

    def test_back(self):
        # Room 2 stands ahead in no pair, so every room is joined to it.
        tables = (((0, 1), (1, 2)), ((0, 0), (0, 1)))
        self.assertEqual(worked_out(3, tables, (("back", 0),)), ((0, 2), (1, 0), (1, 2), (2, 1), (2, 2)))
        self.assertEqual(worked_out(3, tables, (("back", 1),)), ((0, 1), (0, 2), (1, 1), (1, 2), (2, 1), (2, 2)))
        self.assertEqual(worked_out(3, tables, (("on", 0), ("back", 0))), ((0, 0), (0, 2), (1, 1), (1, 2), (2, 2)))

    def test_tables_without_pairs(self):
        full = tuple(product(range(3), repeat=2))
        self.assertEqual(worked_out(3, ((),), (("on", 0),)), ())
        self.assertEqual(worked_out(3, ((),), (("back", 0),)), full)
        self.assertEqual(worked_out(3, ((), full), (("on", 0), ("back", 1))), ())

    def test_step_by_step(self):
        for chart in some_maps(4, "ab", 6):
            tables = board_tables(chart, ("a", "b", "ab"))
            for steps in product(list(product(("on", "back"), range(3))), repeat=3):
                told = worked_out(4, tables, steps)
                ahead = worked_out(4, tables, steps[:-1])
                way, number = steps[-1]
                last = tables[number]
                self.assertEqual(told, over(ahead, last) if way == "on" else every(4, ahead, last))


class ByZigzags(unittest.TestCase):
    def test_every_zigzag_tells_the_words_table(self):
        for board, word in FIXED:
            zigzags = [zigzag(board, word)] + all_zigzags(board, word, 5)[-4:]
            for chart in charts():
                tables = board_tables(chart, board)
                for places in zigzags:
                    told = worked_out(chart[0], tables, steps_of(board, word, places))
                    self.assertEqual(told, table(chart, word), (board, places, chart))
                    self.assertIs(type(told), tuple)

    def test_the_told_zigzag_goes_back_in_some(self):
        ways = {way for board, word in FIXED for way, number in steps_of(board, word, zigzag(board, word))}
        self.assertEqual(ways, {"on", "back"})

    def test_behind_each_step(self):
        for board, word in FIXED:
            places = zigzag(board, word)
            steps = steps_of(board, word, places)
            for chart in charts():
                tables = board_tables(chart, board)
                whole = set(table(chart, word))
                for at, place in enumerate(places):
                    told = set(worked_out(chart[0], tables, steps[:at]))
                    self.assertLessEqual(set(table(chart, word[:place])), told)
                    rest = table(chart, word[place:])
                    self.assertLessEqual({(x, z) for x, y in told for begin, z in rest if begin == y}, whole)

    def test_tables_that_are_not_walked_change_nothing(self):
        board, word = ("c", "ab", "abc", "b", "ba", "bc"), "abcb"
        places = (0, 2, 1, 3, 4)
        steps = steps_of(board, word, places)
        self.assertEqual(walked(steps), (1, 3, 5))
        for chart in some_maps(5, "abc", 8):
            tables = board_tables(chart, board)
            for other in ((), ((0, 0),), tuple(product(range(5), repeat=2))):
                put = tuple(one if number in walked(steps) else other for number, one in enumerate(tables))
                self.assertEqual(worked_out(5, put, steps), table(chart, word))
