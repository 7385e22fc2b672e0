"""Readers and the words that they take: points 16 and 18."""

import unittest
from itertools import product

from tests.samples import all_words
from walktold.reading import is_reader, taken_words, takes

# It takes the words of a and b with an odd number of a and no b behind the last a but in pairs.
ODD = ((False, (1, 0)), (True, (0, 2)), (False, (0, 1)))


class IsReader(unittest.TestCase):
    def test_readers(self):
        self.assertIs(is_reader("a", ((True, (0,)),)), True)
        self.assertIs(is_reader("a", ((False, (0,)),)), True)
        self.assertIs(is_reader("ab", ODD), True)
        self.assertIs(is_reader("xyz", ((True, (0, 0, 0)),)), True)
        self.assertIs(is_reader("ab", ((True, (0, 0)), (False, (1, 1)))), True)
        self.assertIs(is_reader("ab", ((False, (0, 2)), (False, (1, 1)), (False, (2, 0)))), True)

    def test_no_rows(self):
        for colours in ("a", "ab", "abc"):
            self.assertIs(is_reader(colours, ()), False)

    def test_too_few_or_too_many_goes(self):
        self.assertIs(is_reader("ab", ((True, (0,)),)), False)
        self.assertIs(is_reader("ab", ((True, ()),)), False)
        self.assertIs(is_reader("ab", ((True, (0, 0, 0)),)), False)
        self.assertIs(is_reader("a", ODD), False)
        self.assertIs(is_reader("abc", ODD), False)
        for at in range(3):
            for goes in ((), (0,), (0, 0, 0)):
                self.assertIs(is_reader("ab", ODD[:at] + ((True, goes),) + ODD[at + 1:]), False)

    def test_goes_that_are_no_rows(self):
        for at in range(3):
            for go in (-1, -2, -3, 3, 4, 10 ** 20):
                for goes in ((go, 0), (0, go)):
                    self.assertIs(is_reader("ab", ODD[:at] + ((True, goes),) + ODD[at + 1:]), False)
        self.assertIs(is_reader("a", ((True, (1,)),)), False)
        self.assertIs(is_reader("a", ((True, (-1,)),)), False)


class Takes(unittest.TestCase):
    def test_the_word_without_colours(self):
        self.assertIs(takes("a", ((True, (0,)),), ""), True)
        self.assertIs(takes("a", ((False, (0,)),), ""), False)
        self.assertIs(takes("ab", ODD, ""), False)

    def test_rows_of_either_mark(self):
        for word in ("a", "ba", "bba", "abb", "aaa", "ababa", "abbbb"):
            self.assertIs(takes("ab", ODD, word), True, word)
        for word in ("b", "ab", "aa", "aab", "abbb", "aba", "bbb"):
            self.assertIs(takes("ab", ODD, word), False, word)

    def test_goes_stand_in_the_order_of_the_colours(self):
        reader = ((False, (1, 2, 0)), (True, (1, 0, 2)), (False, (2, 2, 2)))
        for word, told in (("c", True), ("ccc", True), ("cccx", False), ("f", False), ("x", False), ("cf", False),
                           ("cfc", True), ("xxc", True), ("cx", False), ("fc", False), ("ccfxc", True)):
            self.assertIs(takes("cfx", reader, word), told, word)

    def test_a_long_word(self):
        self.assertIs(takes("ab", ODD, "a" * 1001), True)
        self.assertIs(takes("ab", ODD, "a" * 1000), False)


class TakenWords(unittest.TestCase):
    def test_length_0(self):
        self.assertEqual(taken_words("a", ((True, (0,)),), 0), [""])
        self.assertEqual(taken_words("a", ((False, (0,)),), 0), [])
        self.assertEqual(taken_words("ab", ODD, 0), [])

    def test_in_order(self):
        self.assertEqual(taken_words("ab", ((True, (0, 0)),), 2), ["", "a", "b", "aa", "ab", "ba", "bb"])
        self.assertEqual(taken_words("bz", ((True, (0, 0)),), 1), ["", "b", "z"])
        self.assertEqual(taken_words("ab", ODD, 3), ["a", "ba", "aaa", "abb", "bba"])

    def test_none(self):
        self.assertEqual(taken_words("abc", ((False, (0, 0, 0)),), 6), [])

    def test_all(self):
        told = taken_words("abc", ((True, (0, 0, 0)),), 6)
        self.assertEqual(told, all_words("abc", 6))
        self.assertEqual(told, sorted(told, key=lambda word: (len(word), word)))

    def test_a_new_list(self):
        told = taken_words("ab", ODD, 1)
        self.assertEqual(told, ["a"])
        told.append("b")
        self.assertEqual(taken_words("ab", ODD, 1), ["a"])

    def test_against_takes(self):
        for marks in product((True, False), repeat=2):
            for goes in product(range(2), repeat=4):
                reader = ((marks[0], goes[:2]), (marks[1], goes[2:]))
                for length in range(5):
                    self.assertEqual(taken_words("cd", reader, length),
                                     [word for word in all_words("cd", length) if takes("cd", reader, word)])
