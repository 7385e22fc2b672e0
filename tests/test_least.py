"""The least reader: point 18."""

import unittest
from itertools import product

from tests.samples import all_words, is_least
from walktold.least import least_reader
from walktold.reading import taken_words


def all_readers(many, colours):
    """All readers of so many rows by so many colours."""
    goes = list(product(range(many), repeat=colours))
    return product(list(product((True, False), goes)), repeat=many)


class LeastReader(unittest.TestCase):
    def test_one_row(self):
        for mark in (True, False):
            self.assertEqual(least_reader("a", ((mark, (0,)),)), ((mark, (0,)),))
            self.assertEqual(least_reader("abc", ((mark, (0, 0, 0)),)), ((mark, (0, 0, 0)),))

    def test_rows_that_are_not_come_to(self):
        self.assertEqual(least_reader("a", ((True, (0,)), (False, (0,)))), ((True, (0,)),))
        self.assertEqual(least_reader("a", ((True, (2,)), (False, (1,)), (False, (0,)))),
                         ((True, (1,)), (False, (0,))))
        self.assertEqual(least_reader("ab", ((False, (3, 3)), (True, (2, 1)), (False, (1, 2)), (True, (3, 0)))),
                         ((False, (1, 1)), (True, (1, 0))))

    def test_rows_that_take_alike(self):
        self.assertEqual(least_reader("a", ((True, (1,)), (True, (0,)))), ((True, (0,)),))
        self.assertEqual(least_reader("a", ((True, (1,)), (True, (2,)), (True, (0,)))), ((True, (0,)),))
        self.assertEqual(least_reader("a", ((True, (1,)), (False, (2,)), (True, (3,)), (False, (0,)))),
                         ((True, (1,)), (False, (0,))))
        self.assertEqual(least_reader("ab", ((False, (1, 2)), (True, (1, 2)), (True, (2, 1)))),
                         ((False, (1, 1)), (True, (1, 1))))

    def test_rows_that_are_alike_for_some_colours_only(self):
        chain = ((False, (1,)), (False, (2,)), (False, (3,)), (False, (4,)), (True, (4,)))
        self.assertEqual(least_reader("a", chain), chain)
        ring = tuple((at == 0, ((at + 1) % 60,)) for at in range(60))
        self.assertEqual(least_reader("a", ring), ring)
        twice = tuple((at % 30 == 0, ((at + 1) % 60,)) for at in range(60))
        self.assertEqual(least_reader("a", twice), tuple((at == 0, ((at + 1) % 30,)) for at in range(30)))

    def test_numbered_as_they_are_come_to(self):
        self.assertEqual(least_reader("ab", ((False, (2, 1)), (True, (0, 1)), (False, (2, 2)))),
                         ((False, (1, 2)), (False, (1, 1)), (True, (0, 2))))
        self.assertEqual(
            least_reader("ab", ((False, (3, 1)), (False, (4, 0)), (True, (2, 2)), (False, (0, 2)), (True, (4, 0)))),
            ((False, (1, 2)), (False, (0, 3)), (False, (4, 0)), (True, (3, 3)), (True, (4, 0))))

    def test_least_once_more(self):
        told = least_reader("ab", ((False, (3, 1)), (False, (4, 0)), (True, (2, 2)), (False, (0, 2)), (True, (4, 0))))
        self.assertEqual(least_reader("ab", told), told)

    def test_all_small_readers(self):
        words = {}
        for colours, many in (("a", 1), ("a", 2), ("a", 3), ("bc", 1), ("bc", 2)):
            for reader in all_readers(many, len(colours)):
                told = least_reader(colours, reader)
                taken = tuple(taken_words(colours, reader, 2 * many))
                self.assertEqual(tuple(taken_words(colours, told, 2 * many)), taken)
                self.assertTrue(is_least(colours, told), (reader, told))
                # Readers that take the same words have one least reader.
                if many == 2:
                    self.assertEqual(words.setdefault((colours, taken), told), told)

    def test_some_readers_of_three_rows(self):
        for at, reader in enumerate(all_readers(3, 2)):
            if at % 7 == 0:
                told = least_reader("ab", reader)
                self.assertTrue(is_least("ab", told), (reader, told))
                self.assertEqual(taken_words("ab", told, 5), taken_words("ab", reader, 5))
