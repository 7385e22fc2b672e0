"""The refusals: their classes, what stands above them, their fields."""

import unittest

from walktold.errors import BadText, IsFixed, NoBoard, NoMap, NoRow, TooMany, WalkError

WITH_FIELD = ((NoBoard, "at"), (NoMap, "at"), (BadText, "row"), (TooMany, "most"))
WITHOUT_FIELD = (IsFixed, NoRow)
ALL = tuple(kind for kind, field in WITH_FIELD) + WITHOUT_FIELD


def one_of(kind):
    return kind() if kind in WITHOUT_FIELD else kind(3)


class Refusals(unittest.TestCase):
    def test_walk_error_stands_under_value_error(self):
        self.assertTrue(issubclass(WalkError, ValueError))
        with self.assertRaises(ValueError):
            raise WalkError()

    def test_each_is_taken_by_walk_error_and_value_error(self):
        for kind in ALL:
            for taker in (kind, WalkError, ValueError):
                with self.subTest(kind=kind, taker=taker), self.assertRaises(taker):
                    raise one_of(kind)

    def test_each_is_taken_by_none_of_the_others(self):
        for kind in ALL:
            for other in ALL:
                if kind is not other:
                    with self.subTest(kind=kind, other=other):
                        self.assertNotIsInstance(one_of(kind), other)

    def test_fields_are_kept_as_they_are(self):
        for kind, field in WITH_FIELD:
            for thing in (0, -1, 7, 10 ** 30, "text", "", None, True, (1, 2), [], {}, object()):
                with self.subTest(kind=kind, thing=thing):
                    self.assertIs(getattr(kind(thing), field), thing)

    def test_field_is_there_when_it_is_taken(self):
        for kind, field in WITH_FIELD:
            thing = [1]
            try:
                raise kind(thing)
            except WalkError as error:
                self.assertIs(getattr(error, field), thing)

    def test_two_of_one_class_side_by_side(self):
        for kind, field in WITH_FIELD:
            one, other = kind(1), kind(2)
            self.assertEqual((getattr(one, field), getattr(other, field)), (1, 2))

    def test_those_without_a_field_are_made_of_nothing(self):
        for kind in WITHOUT_FIELD:
            self.assertIsNot(kind(), kind())
            for field in ("at", "row", "most"):
                self.assertFalse(hasattr(kind(), field))
