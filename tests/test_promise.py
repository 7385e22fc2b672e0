"""What is promised over the whole program: point 3."""

import unittest
from itertools import combinations

from tests.samples import all_maps, all_words, some_maps
from walktold.beside import maps_beside
from walktold.boards import are_same, fixes, lean
from walktold.errors import IsFixed
from walktold.joining import turned_reader
from walktold.laying import laid_in
from walktold.least import least_reader
from walktold.oneway import one_way
from walktold.papers import paper, shows
from walktold.readers import reader
from walktold.reading import takes
from walktold.spreading import board_spread, gathered, word_spread, zigzag_spread
from walktold.steps import let_by, steps_of, walked
from walktold.tables import board_tables, table
from walktold.turning import board_turned, map_turned, word_turned, zigzag_turned
from walktold.twins import part, twins
from walktold.twoway import two_way_of
from walktold.whole import first_unlike
from walktold.workings import worked_out
from walktold.zigzags import is_zigzag, zigzag

BOARDS = [board for many in range(5) for board in combinations(all_words("ab", 3)[1:], many)][::29]
WIDE = (("ab", "b", "ba", "aab"), ("aa", "aaa"), ("aa", "aba", "aaab", "baba"), ("ab", "b", "bc", "cab"),
        ("a", "abba", "babb", "bbab"))
SPREADS = ((("a", "b"), ("b", "a")), (("a", "x"), ("b", "y")), (("a", "ab"), ("b", "ba")), (("b", "aab"),),
           (("a", "b"),))


class JustOneOfTwo(unittest.TestCase):
    def test_a_zigzag_or_two_maps(self):
        for board in BOARDS + list(WIDE):
            for word in all_words("ab", 5):
                places, told = zigzag(board, word), paper(board, word)
                self.assertIs(shows(board, word, told), True, (board, word))
                if places is None:
                    self.assertEqual(told, ("maps",) + twins(board, word))
                    self.assertEqual([chart[0] for chart in told[1:]], [2 * (len(word) + 1)] * 2)
                    self.assertIs(part(board, word, *told[1:]), True)
                else:
                    self.assertEqual(told, ("steps", steps_of(board, word, places)))
                    self.assertIs(let_by(board, word, told[1]), True)
                    with self.assertRaises(IsFixed):
                        twins(board, word)

    def test_no_two_maps_part_a_word_that_is_fixed(self):
        charts = list(all_maps(2, "ab"))
        for board in WIDE[:3]:
            known = {}
            for chart in charts:
                known.setdefault(board_tables(chart, board), []).append(chart)
            for word in all_words("ab", 5):
                parted = any(len({table(chart, word) for chart in alike}) > 1 for alike in known.values())
                self.assertFalse(parted and zigzag(board, word) is not None, (board, word))

    def test_steps_worked_out_are_the_words_table(self):
        for many, number in ((1, 4), (2, 10), (3, 10), (5, 6), (8, 3)):
            for chart in some_maps(many, "ab", number, many):
                for board in BOARDS[::3] + list(WIDE):
                    tables = board_tables(chart, board)
                    for word in all_words("ab", 4) + ["ababab", "aabaab", "aaaaaaa"]:
                        places = zigzag(board, word)
                        if places is not None:
                            steps = steps_of(board, word, places)
                            self.assertEqual(worked_out(many, tables, steps), table(chart, word))

    def test_no_other_tables_are_needed(self):
        for chart in some_maps(3, "ab", 6, 2):
            for board in WIDE:
                for word in all_words("ab", 5):
                    if zigzag(board, word) is not None:
                        steps = steps_of(board, word, zigzag(board, word))
                        tables = tuple(one if number in walked(steps) else ((0, 2), (1, 0))
                                       for number, one in enumerate(board_tables(chart, board)))
                        self.assertEqual(worked_out(3, tables, steps), table(chart, word))


class Readers(unittest.TestCase):
    def test_the_reader_takes_just_what_is_fixed(self):
        for board in BOARDS + list(WIDE):
            told = reader(board, "ab")
            for word in all_words("ab", 6):
                self.assertIs(takes("ab", told, word), zigzag(board, word) is not None)

    def test_there_is_one_least_reader(self):
        for board in BOARDS + list(WIDE):
            told = reader(board, "ab")
            self.assertEqual(least_reader("ab", told), told)
            self.assertEqual(least_reader("ab", told + told), told)
            self.assertEqual(one_way("ab", two_way_of(board, "ab")), told)
            self.assertEqual(turned_reader("ab", reader(board_turned(board), "ab")), told)


class TwoBoards(unittest.TestCase):
    def test_the_same_words_are_fixed(self):
        some = BOARDS[::2] + [("ab", "b", "ba", "aba"), ("ba", "b", "ab"), ("aa", "a", "aaa"), ("a",),
                              ("b", "ab", "ba")]
        for one in some:
            for other in some:
                same = are_same(one, other)
                self.assertIs(same, fixes(one, other)[0] == "fixes" and fixes(other, one)[0] == "fixes")
                self.assertIs(same, sorted(lean(one)) == sorted(lean(other)))
                self.assertIs(same, reader(one, "ab") == reader(other, "ab"))
                self.assertIs(same, first_unlike(one, other, "ab") is None and first_unlike(other, one, "ab") is None)

    def test_of_a_lean_board_no_word_can_be_spared(self):
        for board in BOARDS + list(WIDE):
            told = lean(board)
            self.assertIs(are_same(told, board), True)
            self.assertEqual(lean(told), told)
            for at in range(len(told)):
                self.assertIs(are_same(told[:at] + told[at + 1:], board), False)

    def test_what_a_board_fixes_another_fixes_that_fixes_its_words(self):
        some = BOARDS[::3] + list(WIDE[:2])
        for one in some:
            for other in some:
                if fixes(other, one)[0] == "fixes":
                    for word in all_words("ab", 5):
                        places = zigzag(one, word)
                        if places is not None:
                            self.assertIs(is_zigzag(other, word, laid_in(word, places, one, other)), True)


class Stays(unittest.TestCase):
    def test_turned_about(self):
        for board in BOARDS[::2] + list(WIDE):
            turned = board_turned(board)
            for word in all_words("ab", 5):
                places = zigzag(board, word)
                self.assertIs(places is None, zigzag(turned, word_turned(word)) is None)
                if places is not None:
                    self.assertIs(is_zigzag(turned, word_turned(word), zigzag_turned(word, places)), True)

    def test_spread_and_called_anew(self):
        for pairs in SPREADS:
            for board in BOARDS[::3] + list(WIDE):
                spread = board_spread(pairs, board)
                for word in all_words("ab", 4):
                    places = zigzag(board, word)
                    if places is not None:
                        after = word_spread(pairs, word)
                        self.assertIs(is_zigzag(spread, after, zigzag_spread(pairs, word, places)), True)
                        self.assertEqual(paper(spread, after)[0], "steps")
                    elif all(len(put) == 1 for colour, put in pairs) and len({put for colour, put in pairs}) == 2:
                        self.assertIsNone(zigzag(spread, word_spread(pairs, word)))

    def test_on_maps_turned_about_gathered_and_beside(self):
        board = ("ab", "b", "ba")
        for word in ("aba", "bab", "abbab"):
            steps = steps_of(board, word, zigzag(board, word))
            for chart in some_maps(3, "ab", 6):
                told = table(chart, word)
                turned = board_turned(board), word_turned(word), map_turned(chart)
                self.assertEqual(worked_out(3, board_tables(turned[2], turned[0]),
                                            steps_of(turned[0], turned[1], zigzag(turned[0], turned[1]))),
                                 tuple(sorted((y, x) for x, y in told)))
                pairs = SPREADS[2]
                self.assertEqual(worked_out(3, board_tables(gathered(pairs, chart), board), steps),
                                 table(chart, word_spread(pairs, word)))
                for other in some_maps(2, "ab", 3, 4):
                    self.assertEqual(worked_out(5, board_tables(maps_beside(chart, other), board), steps),
                                     told + tuple((x + 3, y + 3) for x, y in table(other, word)))
