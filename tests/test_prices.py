"""Zigzags and words that cost least: point 36."""

import unittest
from itertools import combinations, product

from tests.samples import all_words
from walktold.needs import enough
from walktold.prices import bought, cheapest
from walktold.steps import steps_of
from walktold.zigzags import is_zigzag, zigzag

BOARDS = [board for many in range(4) for board in combinations(all_words("ab", 3)[1:], many)][::9]
PRICES = ((1, 1, 1, 1, 1, 1), (0, 0, 0, 0, 0, 0), (3, 1, 2, 0, 5, 1), (0, 7, 1, 9, 0, 2), (99, 1, 98, 2, 50, 49))
WIDE = (("ab", "b", "ba", "aab", "bb", "abab"), ("aa", "aaa", "aaaaa", "aaaa", "aaaaaa"),
        ("bab", "abb", "a", "ba", "bbab", "aba"))


def cost_of(board, word, prices, places):
    return sum(prices[number] for way, number in steps_of(board, word, places))


def ways_tried(board, word):
    """All zigzags that come to no place twice; no others can be the best, since they have more places."""
    ways, found = [(0,)], []
    while ways:
        found += [way for way in ways if way[-1] == len(word)]
        ways = [way + (place,) for way in ways for place in range(len(word) + 1)
                if place not in way and word[min(place, way[-1]):max(place, way[-1])] in board]
    return found


def plain_cheapest(board, word, prices):
    costs = [(cost_of(board, word, prices, way), len(way), way) for way in ways_tried(board, word)]
    return (min(costs)[0], min(costs)[2]) if costs else None


def plain_bought(board, word, prices):
    costs = []
    for many in range(len(board) + 1):
        for numbers in combinations(range(len(board)), many):
            if zigzag(tuple(board[number] for number in numbers), word) is not None:
                costs.append((sum(prices[number] for number in numbers), many, numbers))
    return (min(costs)[0], min(costs)[2]) if costs else None


class Cheapest(unittest.TestCase):
    def test_the_word_without_colours(self):
        self.assertEqual(cheapest((), "", ()), (0, (0,)))
        self.assertEqual(cheapest(("a", "b"), "", (5, 0)), (0, (0,)))

    def test_none(self):
        self.assertIsNone(cheapest((), "a", ()))
        self.assertIsNone(cheapest(("ab", "bc"), "abc", (0, 0)))
        self.assertIsNone(cheapest(("a",), "b", (99,)))

    def test_each_step_is_paid_either_way(self):
        self.assertEqual(cheapest(("a",), "aaa", (7,)), (21, (0, 1, 2, 3)))
        self.assertEqual(cheapest(("ab", "b", "bc"), "abc", (1, 10, 100)), (111, (0, 2, 1, 3)))
        self.assertEqual(cheapest(("aaa", "aa"), "aaaa", (5, 3)), (6, (0, 2, 4)))
        self.assertEqual(cheapest(("aaa", "aa"), "a", (5, 3)), None)

    def test_more_places_may_be_cheaper(self):
        self.assertEqual(cheapest(("aaa", "a"), "aaa", (10, 3)), (9, (0, 1, 2, 3)))
        self.assertEqual(cheapest(("aaa", "a"), "aaa", (8, 3)), (8, (0, 3)))

    def test_of_the_same_price_the_fewest_places(self):
        self.assertEqual(cheapest(("aaa", "a"), "aaa", (9, 3)), (9, (0, 3)))
        # The dearer word makes fewer places.
        self.assertEqual(cheapest(("a", "b", "ab"), "ab", (1, 1, 2)), (2, (0, 2)))

    def test_of_these_the_least(self):
        self.assertEqual(cheapest(("a", "aa"), "aaa", (1, 1)), (2, (0, 1, 3)))
        self.assertEqual(cheapest(("ab", "c", "a", "bc"), "abc", (1, 2, 2, 1)), (3, (0, 1, 3)))
        self.assertEqual(cheapest(("aa", "aaa"), "aaaaa", (4, 1)), (5, (0, 2, 5)))
        self.assertEqual(cheapest(("aaaa", "aaa"), "aaaaaa", (0, 0)), (0, (0, 3, 6)))

    def test_prices_of_0(self):
        # Goings round cost nothing, but have more places.
        self.assertEqual(cheapest(("a",), "a", (0,)), (0, (0, 1)))
        self.assertEqual(cheapest(("a", "aa"), "aa", (0, 0)), (0, (0, 2)))
        self.assertEqual(cheapest(("a", "aa"), "aa", (0, 1)), (0, (0, 1, 2)))
        self.assertEqual(cheapest(("aaa", "aa", "a"), "aaaa", (0, 0, 0)), (0, (0, 1, 4)))
        self.assertEqual(cheapest(("aaa", "aa", "a"), "aaaa", (0, 9, 9)), (9, (0, 1, 4)))

    def test_a_word_walked_back_is_paid_too(self):
        self.assertEqual(cheapest(("aaa", "aa", "a"), "aaaaa", (1, 5, 9)), (6, (0, 2, 5)))
        self.assertEqual(cheapest(("aaa", "aa"), "aaaa", (1, 9)), (11, (0, 3, 1, 4)))
        self.assertEqual(cheapest(("aaaa", "a"), "aaa", (1, 1)), (3, (0, 1, 2, 3)))

    def test_where_all_prices_are_alike_it_is_the_zigzag(self):
        for board in BOARDS:
            for word in all_words("ab", 5):
                for price in (0, 1, 7):
                    told = cheapest(board, word, (price,) * len(board))
                    places = zigzag(board, word)
                    self.assertEqual(told, None if places is None else (price * (len(places) - 1), places))

    def test_against_all_tried(self):
        for board in BOARDS + list(WIDE):
            for prices in PRICES:
                some = prices[:len(board)]
                for word in all_words("ab", 4) + ["aabab", "babba", "ababab", "aaaaaaa"]:
                    told = cheapest(board, word, some)
                    self.assertEqual(told, plain_cheapest(board, word, some), (board, word, some))
                    if told is not None:
                        self.assertIs(is_zigzag(board, word, told[1]), True)

    def test_all_small_prices(self):
        board, words = ("aa", "aaa", "a", "aab"), ("aaaaa", "aabaab", "aaaab")
        for prices in product(range(3), repeat=4):
            for word in words:
                self.assertEqual(cheapest(board, word, prices), plain_cheapest(board, word, prices))


class Bought(unittest.TestCase):
    def test_the_word_without_colours(self):
        self.assertEqual(bought((), "", ()), (0, ()))
        self.assertEqual(bought(("a", "b"), "", (0, 5)), (0, ()))

    def test_none(self):
        self.assertIsNone(bought((), "a", ()))
        self.assertIsNone(bought(("ab", "bc"), "abc", (0, 0)))

    def test_a_word_walked_often_is_paid_once(self):
        self.assertEqual(bought(("a",), "aaaa", (7,)), (7, (0,)))
        self.assertEqual(bought(("aaaa", "a"), "aaaa", (8, 7)), (7, (1,)))
        self.assertEqual(cheapest(("aaaa", "a"), "aaaa", (8, 7)), (8, (0, 4)))
        self.assertEqual(bought(("ab", "b", "bc"), "abc", (1, 10, 100)), (111, (0, 1, 2)))

    def test_more_words_may_be_cheaper(self):
        self.assertEqual(bought(("abc", "a", "b", "c"), "abc", (10, 3, 3, 3)), (9, (1, 2, 3)))
        self.assertEqual(bought(("abc", "a", "b", "c"), "abc", (9, 3, 3, 3)), (9, (0,)))
        self.assertEqual(bought(("a", "b", "c", "abc"), "abc", (3, 3, 3, 9)), (9, (3,)))

    def test_of_the_same_price_and_as_many_the_least(self):
        self.assertEqual(bought(("aaa", "a"), "aaa", (4, 4)), (4, (0,)))
        self.assertEqual(bought(("c", "ab", "a", "bc"), "abc", (2, 1, 2, 1)), (3, (0, 1)))
        self.assertEqual(bought(("a", "c", "bc", "ab"), "abc", (2, 1, 1, 2)), (3, (0, 2)))

    def test_prices_of_0(self):
        self.assertEqual(bought(("a", "b", "ab"), "ab", (0, 0, 0)), (0, (2,)))
        self.assertEqual(bought(("a", "b", "ab"), "ab", (0, 0, 1)), (0, (0, 1)))
        # A word that costs nothing and isn't walked is not bought.
        self.assertEqual(bought(("c", "b", "a"), "aa", (0, 0, 1)), (1, (2,)))
        self.assertEqual(bought(("aa", "a"), "aa", (0, 0)), (0, (0,)))

    def test_where_each_costs_one_it_is_enough(self):
        for board in BOARDS + list(WIDE):
            for word in all_words("ab", 5):
                told = enough(board, word)
                self.assertEqual(bought(board, word, (1,) * len(board)), None if told is None else (len(told), told))

    def test_against_all_tried(self):
        for board in BOARDS + list(WIDE):
            for prices in PRICES:
                some = prices[:len(board)]
                for word in all_words("ab", 4) + ["aabab", "babba", "ababab", "aaaaaaa"]:
                    self.assertEqual(bought(board, word, some), plain_bought(board, word, some), (board, word, some))

    def test_all_small_prices(self):
        board, words = ("a", "b", "ab", "ba", "bab"), ("abab", "babab", "aba")
        for prices in product(range(3), repeat=5):
            for word in words:
                self.assertEqual(bought(board, word, prices), plain_bought(board, word, prices))
