"""Boards and maps as texts: point 6."""

import unittest

from tests.samples import all_maps, some_maps
from walktold.errors import BadText
from walktold.texts import read_board, read_map, show_board, show_map


class BoardTexts(unittest.TestCase):
    def test_told_as_words_parted_by_a_blank(self):
        self.assertEqual(show_board(()), "-")
        self.assertEqual(show_board(("a",)), "a")
        self.assertEqual(show_board(("ba", "a", "zz")), "ba a zz")

    def test_read_again(self):
        many = tuple("a" * number for number in range(1, 200))
        for board in ((), ("a",), ("ab", "a", "b"), ("b", "a", "ab"), ("x" * 5000, "y"), many):
            with self.subTest(words=len(board)):
                self.assertEqual(read_board(show_board(board)), board)
                self.assertIsInstance(read_board(show_board(board)), tuple)

    def test_refused(self):
        for text in ("", " ", "a  b", " a", "a ", "  ", "a b ", "- ", " -", "--", "a -", "- a", "-a", "A", "a B", "a1",
                     "a,b", "a\n", "\na", "a\nb", "-\n", "\n", "a a", "a b a", "ab b ab", "a\tb", ".", "a+", "a\rb"):
            with self.subTest(text=text), self.assertRaises(BadText) as taken:
                read_board(text)
            self.assertEqual(taken.exception.row, 0)


class MapTexts(unittest.TestCase):
    def refused_row(self, text):
        with self.assertRaises(BadText) as taken:
            read_map(text)
        return taken.exception.row

    def test_told_row_by_row(self):
        self.assertEqual(show_map((1, ())), "rooms 1")
        self.assertEqual(show_map((12, ((0, "a", 11), (10, "z", 0)))), "rooms 12\n0 a 11\n10 z 0")

    def test_read_again(self):
        big = (999, tuple((begin, colour, 998 - begin) for begin in range(999) for colour in "ab"))
        charts = [(1, ()), (999, ()), (10, ()), (100, ()), (999, ((0, "a", 998), (998, "z", 0))), big]
        charts += list(all_maps(2, "a")) + list(some_maps(4, "abc", 20)) + list(some_maps(12, "xz", 6))
        for chart in charts:
            with self.subTest(chart=str(chart)[:60]):
                self.assertEqual(read_map(show_map(chart)), chart)

    def test_read_as_tuples(self):
        many, streets = read_map("rooms 2\n0 a 1")
        self.assertIs(type(many), int)
        self.assertIs(type(streets), tuple)
        self.assertEqual([type(part) for part in streets[0]], [int, str, int])
        self.assertIs(type(streets[0]), tuple)

    def test_wrong_first_rows(self):
        for row in ("", " ", "rooms", "rooms ", "rooms  3", " rooms 3", "rooms 3 ", "rooms 3 4", "room 3", "Rooms 3",
                    "rooms 0", "rooms 00", "rooms 03", "rooms 003", "rooms +3", "rooms -3", "rooms 1000", "rooms 3000",
                    "rooms 0999", "rooms x", "rooms 3x", "rooms 1_0", "rooms 3.", "3", "0 a 0", "rooms\t3",
                    "rooms \u0663", "rooms \u00b2", "rooms3", "-", "rooms 3\r"):
            for rest in ("", "\n0 a 0", "\n", "\nx"):
                with self.subTest(row=row, rest=rest):
                    self.assertEqual(self.refused_row(row + rest), 0)

    def test_wrong_street_rows(self):
        for row in ("", " ", "0", "0 a", "0 a 1 ", " 0 a 1", "0  a 1", "0 a  1", "0 a 1 1", "0 a 1 b", "a 0 1", "0 1 a",
                    "00 a 1", "0 a 01", "01 a 1", "0 a 00", "+0 a 1", "0 a +1", "-0 a 1", "0 a -1", "-1 a 0",
                    "3 a 0", "0 a 3", "1000 a 0", "0 a 1000", "0 a 0001", "0 A 1", "0 ab 1", "0 1 1", "0 - 1",
                    "0\ta\t1", "0 a \u0661", "rooms 3", "x", "0a1", "0 a 1_0", "0 a " + "1" * 5000):
            for at in range(3):
                rows = ["rooms 3", "0 a 0", "1 a 1"][:at + 1] + [row]
                for rest in ([], ["2 z 2"], ["x"], [""]):
                    with self.subTest(row=row[:20], at=at, rest=rest):
                        self.assertEqual(self.refused_row("\n".join(rows + rest)), at + 1)

    def test_streets_that_do_not_rise(self):
        self.assertEqual(self.refused_row("rooms 2\n0 a 0\n0 a 0"), 2)
        self.assertEqual(self.refused_row("rooms 2\n0 a 1\n0 a 0\n1 a 1"), 2)
        self.assertEqual(self.refused_row("rooms 2\n0 a 0\n1 b 0\n1 a 1\n0 x"), 3)

    def test_rooms_are_told_as_numbers_not_as_texts(self):
        self.assertEqual(read_map("rooms 11\n2 a 0\n10 a 0"), (11, ((2, "a", 0), (10, "a", 0))))
        self.assertEqual(self.refused_row("rooms 11\n10 a 0\n2 a 0"), 2)

    def test_a_line_feed_at_an_end(self):
        self.assertEqual(self.refused_row("rooms 2\n"), 1)
        self.assertEqual(self.refused_row("rooms 2\n0 a 0\n"), 2)
        self.assertEqual(self.refused_row("rooms 2\n0 a 0\n\n"), 2)
        self.assertEqual(self.refused_row("\nrooms 2"), 0)

    def test_the_first_wrong_row_is_told(self):
        self.assertEqual(self.refused_row("rooms 2\n0 a 0\n0 a 5\nx\n0 a 0"), 2)
        self.assertEqual(self.refused_row("rooms 2\n0 a 0\nx\n0 a 5"), 2)
        self.assertEqual(self.refused_row("rooms 0\n0 a 5\nx"), 0)
