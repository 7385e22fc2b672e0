"""What holds of all that is told: point 2."""

import copy
import unittest

from walktold.beside import maps_beside
from walktold.boards import are_same, fixes, joined, lean
from walktold.counts import how_many
from walktold.desk import Desk
from walktold.ends import ends_of
from walktold.freemap import free_map
from walktold.helping import helping
from walktold.joining import by_both, by_either, by_none, turned_reader
from walktold.laying import laid_in
from walktold.least import least_reader
from walktold.many import how_many_zigzags, zigzags_to
from walktold.maps import look_map
from walktold.needs import enough, far, needed
from walktold.oneway import one_way
from walktold.papers import paper, shows
from walktold.places import lands, stretches
from walktold.prices import bought, cheapest
from walktold.readers import reader
from walktold.reading import is_reader, taken_words, takes
from walktold.spreading import board_spread, gathered, word_spread, zigzag_spread
from walktold.steps import let_by, steps_of, walked
from walktold.steptexts import read_steps, show_steps
from walktold.sure import how_sure, sure
from walktold.tables import board_tables, every, over, table
from walktold.texts import read_board, read_map, show_board, show_map
from walktold.turning import board_turned, map_turned, word_turned, zigzag_turned
from walktold.twins import part, twins
from walktold.twoway import is_two_way, two_takes, two_way_of
from walktold.walks import walk
from walktold.whole import all_from, first_beyond, first_open, first_unlike
from walktold.words import is_word, look_board
from walktold.workings import worked_out
from walktold.zigzags import is_zigzag, zigzag

CHART = (3, ((0, "a", 1), (0, "b", 0), (1, "a", 2), (1, "b", 1), (2, "a", 0)))
BOARD = ("ab", "b", "ba")
TABLES = board_tables(CHART, BOARD)
PLACES = zigzag(BOARD, "aba")
STEPS = steps_of(BOARD, "aba", PLACES)
TWINS = twins(BOARD, "aa")
ROWS = reader(BOARD, "ab")
TWO = two_way_of(BOARD, "ab")
PAIRS = (("a", "ab"), ("c", "a"))
CALLS = [
    (is_word, ("abc",)), (is_word, ("aB",)), (look_board, (BOARD,)), (look_map, (CHART,)),
    (show_board, (BOARD,)), (read_board, ("ab b ba",)), (read_board, ("-",)),
    (show_map, (CHART,)), (read_map, (show_map(CHART),)),
    (table, (CHART, "abba")), (table, (CHART, "")), (over, TABLES[:2]), (every, (3,) + TABLES[1:]),
    (board_tables, (CHART, BOARD)), (board_tables, (CHART, ())),
    (walk, (CHART, "abba", 0, 2)), (walk, (CHART, "a", 0, 0)), (stretches, (BOARD, "aba")), (lands, (BOARD, "aba")),
    (zigzag, (BOARD, "aba")), (zigzag, (BOARD, "aa")), (is_zigzag, (BOARD, "aba", PLACES)),
    (steps_of, (BOARD, "aba", PLACES)), (let_by, (BOARD, "aba", STEPS)), (walked, (STEPS,)),
    (worked_out, (3, TABLES, STEPS)), (show_steps, (BOARD, STEPS)), (read_steps, (BOARD, "ab+ b- ba+")),
    (twins, (BOARD, "aa")), (part, (BOARD, "aa") + TWINS), (paper, (BOARD, "aba")), (paper, (BOARD, "aa")),
    (shows, (BOARD, "aba", ("steps", STEPS))), (shows, (BOARD, "aa", ("maps",) + TWINS)),
    (is_reader, ("ab", ROWS)), (takes, ("ab", ROWS, "aba")), (taken_words, ("ab", ROWS, 4)),
    (least_reader, ("ab", ROWS)), (reader, (BOARD, "ab")), (reader, (BOARD, "abc", 5)), (reader, ((), "a", 2)),
    (first_open, (BOARD, "ab")), (first_open, (BOARD, "b")), (first_beyond, (BOARD, "ab")),
    (first_unlike, (BOARD, (), "ab")), (first_unlike, ((), BOARD, "ab", 4)), (all_from, (BOARD, "ab")),
    (all_from, (("aaa", "aa"), "a")), (how_many, ("ab", ROWS, 30)), (how_many, ("ab", ROWS, 0)),
    (fixes, (BOARD, ("aba", "bb"))), (fixes, (BOARD, ("aba", "aa"))), (are_same, (BOARD, ("ba", "b", "ab"))),
    (lean, (BOARD + ("aba",),)), (joined, (BOARD, ("a", "b"))), (laid_in, ("aba", PLACES, BOARD, ("a", "b"))),
    (word_turned, ("aab",)), (board_turned, (BOARD,)), (map_turned, (CHART,)), (zigzag_turned, ("aba", PLACES)),
    (word_spread, (PAIRS, "abc")), (board_spread, (PAIRS, BOARD)), (zigzag_spread, (PAIRS, "aba", PLACES)),
    (gathered, (PAIRS, CHART)), (maps_beside, (CHART, CHART)), (needed, (BOARD, "aba")), (enough, (BOARD, "aba")),
    (enough, (BOARD, "aa")), (far, (BOARD, "abaa")), (helping, (BOARD, "aa")), (helping, (BOARD, "aba")),
    (is_two_way, ("ab", TWO)), (two_takes, ("ab", TWO, "aba")), (two_way_of, (BOARD, "ab")),
    (ends_of, ("ab", TWO, "aba")), (ends_of, ("ab", TWO, "")), (Desk().say, ("fixes ab",)), (Desk().say, ("board",)),
    (one_way, ("ab", TWO)), (one_way, ("ab", TWO, 4)), (how_many_zigzags, (BOARD, "aba", 14)),
    (zigzags_to, (BOARD, "aba", 6)), (zigzags_to, (BOARD, "aa", 6)), (cheapest, (BOARD, "aba", (3, 0, 1))),
    (cheapest, (BOARD, "aa", (3, 0, 1))), (bought, (BOARD, "aba", (3, 0, 1))), (bought, (BOARD, "aa", (3, 0, 1))),
    (free_map, (3, BOARD, TABLES)), (sure, (3, BOARD, TABLES, "abb")), (sure, (3, BOARD, TABLES, "aa")),
    (how_sure, (3, BOARD, TABLES, "abb", 0, 1)), (how_sure, (3, BOARD, TABLES, "aa", 0, 1)),
    (by_both, ("ab", ROWS, ROWS)), (by_either, ("ab", ROWS, ROWS, 4)), (by_none, ("ab", ROWS)),
    (turned_reader, ("ab", ROWS)),
]
LISTS = (stretches, taken_words, zigzags_to)


def is_plain(thing):
    """Whether a thing is made of tuples, texts, whole numbers, truths, None."""
    if type(thing) is tuple:
        return all(is_plain(part) for part in thing)
    return thing is None or type(thing) in (str, int, bool)


class Told(unittest.TestCase):
    def test_made_of_plain_things(self):
        for asked, things in CALLS:
            with self.subTest(asked=asked.__name__):
                told = asked(*things)
                self.assertIs(type(told) is list, asked in LISTS)
                self.assertTrue(is_plain(tuple(told) if asked in LISTS else told))

    def test_lists_are_new_ones(self):
        for asked, things in CALLS:
            if asked in LISTS:
                told = asked(*things)
                before = list(told)
                told.clear()
                self.assertEqual(asked(*things), before)

    def test_asked_again_whatever_was_asked_between(self):
        first = [asked(*things) for asked, things in CALLS]
        backward = [asked(*things) for asked, things in reversed(CALLS)]
        self.assertEqual(first, backward[::-1])

    def test_nothing_that_is_handed_in_is_changed(self):
        for asked, things in CALLS:
            before = copy.deepcopy(things)
            asked(*things)
            self.assertEqual(things, before)
