"""How many words a reader takes: point 20."""

import unittest
from itertools import product

from walktold.counts import how_many
from walktold.readers import reader
from walktold.reading import taken_words

ALL = ((True, (0, 0, 0)),)
NONE = ((False, (0, 0, 0)),)


class HowMany(unittest.TestCase):
    def test_number_0(self):
        self.assertEqual(how_many("abc", ALL, 0), 1)
        self.assertEqual(how_many("abc", NONE, 0), 0)
        self.assertEqual(how_many("a", ((False, (1,)), (True, (1,))), 0), 0)
        self.assertEqual(how_many("a", ((True, (1,)), (False, (1,))), 0), 1)

    def test_all(self):
        for number in range(31):
            self.assertEqual(how_many("abc", ALL, number), 3 ** number)
            self.assertEqual(how_many("ab", ((True, (0, 0)),), number), 2 ** number)
            self.assertEqual(how_many("z", ((True, (0,)),), number), 1)

    def test_none(self):
        for number in (0, 1, 2, 30):
            self.assertEqual(how_many("abc", NONE, number), 0)

    def test_just_so_many_colours(self):
        # It takes all words of two colours and no others.
        rows = ((False, (1, 1)), (False, (2, 2)), (True, (3, 3)), (False, (3, 3)))
        self.assertEqual([how_many("ab", rows, number) for number in range(5)], [0, 0, 4, 0, 0])

    def test_great_numbers(self):
        # Words without `bb`: their numbers are those of which each is the sum of the two ahead.
        rows = ((True, (0, 1)), (True, (0, 2)), (False, (2, 2)))
        sums = [1, 2]
        while len(sums) < 31:
            sums.append(sums[-1] + sums[-2])
        self.assertEqual([how_many("ab", rows, number) for number in range(31)], sums)
        # Words with an even number of `a`.
        even = ((True, (1, 0, 0)), (False, (0, 1, 1)))
        self.assertEqual(how_many("abc", even, 30), (3 ** 30 + 1) // 2)
        # Words with just two `c`.
        two = ((False, (0, 0, 1)), (False, (1, 1, 2)), (True, (2, 2, 3)), (False, (3, 3, 3)))
        self.assertEqual(how_many("abc", two, 30), 435 * 2 ** 28)

    def test_the_reader_of_a_board(self):
        # Chains of `ab` and `c`: as many as chains of one and of two colours.
        rows = reader(("ab", "c"), "abc")
        self.assertEqual([how_many("abc", rows, number) for number in range(9)], [1, 1, 2, 3, 5, 8, 13, 21, 34])
        self.assertEqual(how_many("a", reader(("aaa",), "a"), 30), 1)
        self.assertEqual(how_many("a", reader(("aaa",), "a"), 29), 0)

    def test_rows_with_goes_that_are_alike(self):
        self.assertEqual(how_many("abc", ((False, (1, 1, 0)), (True, (0, 1, 1))), 1), 2)
        self.assertEqual(how_many("abc", ((False, (1, 1, 0)), (True, (0, 1, 1))), 2), 6)

    def test_against_the_words(self):
        for marks in product((True, False), repeat=2):
            for goes in product(range(2), repeat=4):
                rows = ((marks[0], goes[:2]), (marks[1], goes[2:]))
                words = taken_words("cd", rows, 5)
                for number in range(6):
                    self.assertEqual(how_many("cd", rows, number), len([word for word in words if len(word) == number]))
