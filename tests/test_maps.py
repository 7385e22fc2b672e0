"""Maps, looked at: point 5."""

import unittest

from walktold.errors import NoMap
from walktold.maps import look_map

STREETS = ((0, "a", 0), (0, "a", 2), (0, "b", 0), (1, "z", 2), (2, "a", 0))


class Maps(unittest.TestCase):
    def refused_at(self, many, streets):
        with self.assertRaises(NoMap) as taken:
            look_map((many, streets))
        return taken.exception.at

    def test_maps(self):
        for chart in ((1, ()), (1, ((0, "a", 0),)), (3, STREETS), (999, STREETS), (5, ((4, "z", 4),))):
            with self.subTest(chart=chart):
                self.assertIs(look_map(chart), True)

    def test_rooms_below_one_ahead_of_all_else(self):
        for many in (0, -1, -7, -10 ** 20):
            for streets in ((), ((0, "a", 0),), ((5, "A", 5),), ((0, "b", 0), (0, "a", 0))):
                with self.subTest(many=many, streets=streets):
                    self.assertEqual(self.refused_at(many, streets), -1)

    def test_streets_by_no_room(self):
        for many in (1, 2, 3):
            for room in (many, many + 1, -1, -2, 10 ** 20, -10 ** 20):
                for street in ((room, "a", 0), (0, "a", room), (room, "a", room)):
                    with self.subTest(many=many, street=street):
                        self.assertEqual(self.refused_at(many, (street,)), 0)

    def test_streets_of_no_colour(self):
        for colour in ("", "ab", "aa", "A", "Z", "1", " ", "-", "a ", "\n", "`", "{", "\u00e9"):
            with self.subTest(colour=colour):
                self.assertEqual(self.refused_at(1, ((0, colour, 0),)), 0)

    def test_a_wrong_street_at_each_place(self):
        for at in range(len(STREETS)):
            begin, colour, end = STREETS[at]
            for wrong in ((begin, colour, 3), (begin, colour, -1), (begin, colour + "a", end), (-1, colour, end)):
                with self.subTest(at=at, wrong=wrong):
                    self.assertEqual(self.refused_at(3, STREETS[:at] + (wrong,) + STREETS[at + 1:]), at)

    def test_streets_that_are_not_greater_than_the_one_ahead(self):
        for at in range(len(STREETS)):
            with self.subTest(at=at):
                self.assertEqual(self.refused_at(3, STREETS[:at + 1] + STREETS[at:]), at + 1)
        for lesser in ((0, "b", 1), (1, "a", 2), (1, "b", 0)):
            self.assertEqual(self.refused_at(3, ((0, "a", 0), (1, "b", 1), lesser, (2, "a", 0))), 2)

    def test_each_part_of_a_street_counts_in_the_order(self):
        self.assertIs(look_map((2, ((0, "b", 1), (1, "a", 0)))), True)
        self.assertIs(look_map((2, ((0, "a", 1), (0, "b", 0)))), True)
        self.assertIs(look_map((2, ((0, "a", 0), (0, "a", 1)))), True)
        self.assertIs(look_map((11, ((2, "a", 0), (10, "a", 0)))), True)

    def test_the_first_of_several_faults_is_told(self):
        self.assertEqual(self.refused_at(1, ((0, "a", 0), (0, "a", 0), (5, "a", 5))), 1)
        self.assertEqual(self.refused_at(1, ((0, "a", 0), (0, "b", 1), (0, "a", 0), (0, "C", 0))), 1)
        self.assertEqual(self.refused_at(2, ((0, "A", 0), (3, "a", 0), (0, "a", 0))), 0)
        self.assertEqual(self.refused_at(2, ((0, "a", 0), (0, "b", 0), (0, "a", 1), (-1, "a", 0))), 2)

    def test_sizes_far_beyond_the_bounds(self):
        streets = tuple((begin, "a", end) for begin in range(300) for end in range(300))
        self.assertIs(look_map((300, streets)), True)
        self.assertIs(look_map((10 ** 20, ((10 ** 20 - 1, "a", 0),))), True)
        self.assertEqual(self.refused_at(299, streets), 299)
        self.assertEqual(self.refused_at(300, streets + ((0, "a", 0),)), 90000)
