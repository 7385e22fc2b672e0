"""The desk: point 31."""

import unittest
from unittest.mock import patch

from walktold.desk import Desk
from walktold.errors import NoRow

FOUR = ("a", "ab", "ba", "bbb")


def desk_with(*words):
    desk = Desk()
    for word in words:
        desk.say("put " + word)
    return desk


class DeskCase(unittest.TestCase):
    def refused(self, desk, *rows):
        """Each row is refused, and the board stays as it is."""
        for row in rows:
            before = desk.say("board")
            with self.subTest(row=row):
                with self.assertRaises(NoRow):
                    desk.say(row)
                self.assertEqual(desk.say("board"), before)


class PutAndTake(DeskCase):
    def test_at_first_there_are_no_words(self):
        self.assertEqual(Desk().say("board"), "-")

    def test_put_behind_the_others(self):
        desk = Desk()
        self.assertEqual([desk.say(row) for row in ("put b", "put ab", "put a", "board")],
                         ["up 1", "up 2", "up 3", "b ab a"])

    def test_take(self):
        desk = desk_with("b", "ab", "a")
        self.assertEqual([desk.say(row) for row in ("take ab", "board", "take a", "take b", "board")],
                         ["up 2", "b a", "up 1", "up 0", "-"])

    def test_put_again_it_stands_behind(self):
        desk = desk_with("b", "ab", "a")
        self.assertEqual([desk.say(row) for row in ("take b", "put b", "board")], ["up 2", "up 3", "ab a b"])

    def test_a_seventh_word(self):
        desk = desk_with("a", "b", "c", "d", "e")
        self.assertEqual(desk.say("put f"), "up 6")
        self.refused(desk, "put g", "put ab", "put a")
        self.assertEqual([desk.say(row) for row in ("take a", "put g", "board")], ["up 5", "up 6", "b c d e f g"])

    def test_words_of_more_than_six_colours(self):
        desk = Desk()
        self.assertEqual(desk.say("put abcdef"), "up 1")
        self.refused(desk, "put abcdefg", "put aaaaaaaaaaaa", "put aaaaaaaaaaaaa")
        self.assertEqual(desk.say("board"), "abcdef")

    def test_a_word_that_is_up(self):
        desk = desk_with("a", "ab")
        self.refused(desk, "put a", "put ab")
        self.assertEqual(desk.say("put b"), "up 3")

    def test_a_word_that_is_not_up(self):
        self.refused(Desk(), "take a")
        self.refused(desk_with("ab"), "take a", "take b", "take ba", "take abab")
        desk = desk_with("ab")
        desk.say("take ab")
        self.refused(desk, "take ab")

    def test_no_words_of_colours(self):
        self.refused(desk_with("a"), "put", "put ", "put A", "put aB", "put 1", "put -", "put a-", "put a,b", "put .",
                     "take", "take ", "take A", "take -", "put a\n", "put b\n", "take a\n", "put \nb", "put b\nput c")


class Fixes(DeskCase):
    def test_yes_and_the_steps(self):
        desk = desk_with("ab", "b", "ba")
        self.assertEqual(desk.say("fixes aba"), "yes ab+ b- ba+")
        self.assertEqual(desk.say("fixes b"), "yes b+")
        self.assertEqual(desk.say("fixes abb"), "yes ab+ b+")

    def test_no_and_the_word_that_helps(self):
        self.assertEqual(Desk().say("fixes a"), "no a")
        self.assertEqual(Desk().say("fixes abab"), "no ab")
        desk = desk_with("ab", "bc")
        self.assertEqual(desk.say("fixes abc"), "no a")
        desk.say("put b")
        self.assertEqual(desk.say("fixes abc"), "yes ab+ b- bc+")

    def test_words_of_twelve_colours_and_more(self):
        desk = desk_with("a")
        self.assertEqual(desk.say("fixes " + "a" * 12), "yes" + " a+" * 12)
        self.assertEqual(desk.say("fixes abcdefghijkl"), "no bcdefghijkl")
        self.refused(desk, "fixes " + "a" * 13, "fixes " + "b" * 13, "fixes " + "a" * 500)

    def test_no_words(self):
        self.refused(desk_with("a"), "fixes", "fixes ", "fixes -", "fixes .", "fixes A", "fixes a b", "fixes a ",
                     "fixes  a", "fixes 1", "fixes a\n")

    def test_the_board_stays(self):
        desk = desk_with("ab", "b")
        desk.say("fixes a")
        desk.say("fixes abb")
        self.assertEqual(desk.say("board"), "ab b")

    def test_also_of_boards_of_which_no_reader_is_asked(self):
        desk = desk_with("a", "b", "c", "d", "e", "abcdef")
        self.assertEqual(desk.say("fixes edcba"), "yes e+ d+ c+ b+ a+")


class Lean(DeskCase):
    def test_it_is_told_and_kept(self):
        desk = desk_with("aba", "ab", "b", "ba")
        self.assertEqual(desk.say("board"), "aba ab b ba")
        self.assertEqual(desk.say("lean"), "ab b ba")
        self.assertEqual(desk.say("board"), "ab b ba")
        self.assertEqual(desk.say("lean"), "ab b ba")
        self.assertEqual(desk.say("put aba"), "up 4")

    def test_without_words(self):
        desk = Desk()
        self.assertEqual(desk.say("lean"), "-")
        self.assertEqual(desk.say("board"), "-")

    def test_where_nothing_can_be_spared(self):
        desk = desk_with("b", "ab")
        self.assertEqual(desk.say("lean"), "b ab")

    def test_more_may_be_put_up_and_asked_then(self):
        desk = desk_with("aa", "aaa", "aaaaa", "a", "aaaa", "aaaaaa")
        self.refused(desk, "put b", "reader a")
        self.assertEqual(desk.say("lean"), "a")
        self.assertEqual(desk.say("reader a"), "1")
        self.assertEqual(desk.say("put b"), "up 2")


class Readers(DeskCase):
    def test_reader(self):
        self.assertEqual(Desk().say("reader a"), "2")
        self.assertEqual(desk_with("a").say("reader a"), "1")
        self.assertEqual(desk_with("ab", "b", "ba").say("reader ab"), "4")
        self.assertEqual(desk_with("ab", "b", "ba").say("reader b"), "1")
        self.assertEqual(desk_with("ab", "b", "ba").say("reader abz"), "4")
        self.assertEqual(desk_with("a", "abba", "babb", "bbab").say("reader ab"), "27")

    def test_first(self):
        self.assertEqual(Desk().say("first xyz"), "x")
        self.assertEqual(desk_with("ab", "b", "ba").say("first ab"), "a")
        self.assertEqual(desk_with("ab", "b", "ba").say("first b"), "none")
        self.assertEqual(desk_with("a", "b").say("first ab"), "none")
        self.assertEqual(desk_with("a", "b").say("first abc"), "c")
        self.assertEqual(desk_with("a", "ab").say("first ab"), "b")
        self.assertEqual(desk_with("e", "n").say("first eno"), "o")

    def test_count(self):
        desk = desk_with("ab", "b", "ba")
        self.assertEqual([desk.say(f"count {number} ab") for number in range(4)], ["1", "1", "3", "5"])
        self.assertEqual(desk.say("count 30 ab"), "69700671")
        self.assertEqual(desk_with("a", "b", "c").say("count 30 abc"), str(3 ** 30))
        self.assertEqual(desk_with("a").say("count 10 bc"), "0")
        self.assertEqual(Desk().say("count 0 a"), "1")
        self.assertEqual(Desk().say("count 9 a"), "0")

    def test_numbers(self):
        self.refused(desk_with("a"), "count 00 a", "count 01 a", "count 010 a", "count 31 a", "count 300 a",
                     "count 1000000 a", "count -1 a", "count -0 a", "count +1 a", "count 1_0 a", "count x a",
                     "count 1.0 a", "count  a", "count 1", "count a", "count", "count a 1", "count 1 2 a")

    def test_colours(self):
        desk = desk_with("a")
        for row in ("reader", "first", "count 2"):
            desk.say(row + " abc")
            self.refused(desk, *[row + " " + colours for colours in
                                 ("ba", "aa", "aba", "abb", "cab", "abcd", "", "A", "aB", "1", "-", "a b", "a,b",
                                  "a\n")])
            self.refused(desk, row, row + "  a", row + " a ")

    def test_five_words_up(self):
        desk = desk_with(*FOUR)
        rows = ("reader ab", "first ab", "count 2 ab", "reader c", "count 0 z")
        told = [desk.say(row) for row in rows]
        desk.say("put c")
        self.refused(desk, *rows)
        desk.say("take c")
        self.assertEqual([desk.say(row) for row in rows], told)

    def test_a_word_of_five_colours(self):
        desk = desk_with("aaaa")
        self.assertEqual([desk.say(row) for row in ("reader a", "first a", "count 4 a")], ["4", "a", "1"])
        desk.say("put bbbbb")
        self.refused(desk, "reader a", "first a", "count 4 a", "reader b")
        desk.say("take aaaa")
        self.refused(desk, "reader b", "first b", "count 5 b")

    def test_sixty_rows_are_let_by(self):
        asked = []

        def seen(board, colours, most=60):
            asked.append(most)
            return ((True, (0,)),)

        with patch("walktold.desk.reader", seen), patch("walktold.whole.reader", seen):
            desk = desk_with("a")
            for row in ("reader a", "first a", "count 2 a"):
                desk.say(row)
        self.assertEqual(asked, [60, 60, 60])

    def test_many(self):
        # No board of so few and short words has a reader of more than 60 rows, so the desk's bound is set lower here.
        desk = desk_with("ab", "b", "ba")
        rows = ("reader ab", "first ab", "count 3 ab", "count 0 ab")
        with patch("walktold.desk.MOST_ROWS", 4):
            self.assertEqual([desk.say(row) for row in rows], ["4", "a", "5", "1"])
        with patch("walktold.desk.MOST_ROWS", 3):
            self.assertEqual([desk.say(row) for row in rows], ["many"] * 4)
            self.assertEqual(desk.say("reader b"), "1")
            self.refused(desk, "reader ba", "count 31 ab", "first")
        self.assertEqual(desk.say("board"), "ab b ba")


class Rows(DeskCase):
    def test_rows_of_no_known_form(self):
        self.refused(desk_with("a", "aa"), "", " ", "\n", "a", "fix a", "Put b", "PUT b", "Board", "LEAN", "boards",
                     "lean a", "board a", "lean ", " lean", " board", "board ", "board\n", "\nboard", "board\nlean",
                     "put b c", "put  b", " put b", "put b ", "take a aa", "take  a", " take a", "take a ", "reader a b",
                     "first a b", "count 1 a b", "put,b", "put\nb", "put", "take", "fixes", "reader", "first", "count",
                     "many", "yes a+", "up 1", "say board", "-", "~" * 600)

    def test_desks_know_nothing_of_each_other(self):
        one, other = Desk(), Desk()
        one.say("put a")
        self.assertEqual(other.say("board"), "-")
        other.say("put b")
        other.say("put bb")
        self.assertEqual((one.say("board"), other.say("board")), ("a", "b bb"))
        other.say("lean")
        self.assertEqual((one.say("board"), other.say("board")), ("a", "b"))
        self.assertEqual(Desk().say("board"), "-")

    def test_what_is_asked_again_is_told_again(self):
        desk = desk_with(*FOUR)
        rows = ("board", "fixes abab", "fixes bb", "reader ab", "first ab", "count 7 ab")
        self.assertEqual([desk.say(row) for row in rows], [desk.say(row) for row in rows])
        for row in rows:
            self.assertIs(desk.say(row).__class__, str)
