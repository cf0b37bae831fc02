"""12.1: the dearest part with one order."""

import random
import unittest
from itertools import combinations

from bymiddles.books import Book, joined, part, shifted
from bymiddles.errors import NoPrices, TooMany
from bymiddles.leaving import best_part
from bymiddles.orders import has_one_order, one_order
from tests.plain import (NO_PRICES, STRANGE, U, V, W, changed, deep, great_book, near_windows, plain_one_orders, raised,
                         random_prices, random_windows, small_books)

TWELVE = part(great_book(1), tuple(range(12)))
THIRTEEN = part(great_book(1), tuple(range(13)))


def groups_of(book):
    """All groups, the empty one too."""
    works = range(len(book.windows))
    return [group for size in range(len(works) + 1) for group in combinations(works, size)]


def dearest(book, prices, has_order):
    """The pair by a look at all groups."""
    right = [group for group in groups_of(book) if not group or has_order(part(book, group))]
    price = max(sum(prices[work] for work in group) for group in right)
    return price, min(group for group in right if sum(prices[work] for work in group) == price)


class BestPart(unittest.TestCase):
    def test_against_all_groups(self):
        rnd = random.Random(131)
        found = {}
        for book in small_books(131, 250, 7, 20):
            prices = random_prices(rnd, len(book.windows))
            told = best_part(book, prices)
            self.assertEqual(told, dearest(book, prices, has_one_order), (book.windows, prices))
            self.assertIsInstance(told, tuple)
            found[told[0] == sum(prices), one_order(book) is None] = True
        self.assertEqual(len(found), 3)

    def test_against_all_lots(self):
        rnd = random.Random(132)
        for book in small_books(132, 40, 4, 4):
            prices = random_prices(rnd, len(book.windows))
            self.assertEqual(best_part(book, prices), dearest(book, prices, lambda one: plain_one_orders(one.windows)))

    def test_the_least_group_where_sums_are_alike(self):
        self.assertEqual(best_part(W, (5, 1, 3)), (8, (0, 2)))
        self.assertEqual(best_part(W, (1, 1, 1)), (2, (0, 1)))
        self.assertEqual(best_part(W, (1, 2, 1)), (3, (0, 1)))
        self.assertEqual(best_part(W, (0, 2, 2)), (4, (1, 2)))
        self.assertEqual(best_part(W, (2, 0, 2)), (4, (0, 2)))
        self.assertEqual(best_part(W, (2, 0, 0)), (2, (0,)))
        self.assertEqual(best_part(W, (0, 0, 2)), (2, (0, 2)))
        self.assertEqual(best_part(V, (0, 0, 2)), (2, (0, 1, 2)))
        self.assertEqual(best_part(V, (2, 0, 0)), (2, (0,)))

    def test_prices_of_nothing(self):
        for book in [U, V, W, Book(((3, 4),)), TWELVE]:
            self.assertEqual(best_part(book, (0,) * len(book.windows)), (0, ()))
        self.assertEqual(best_part(Book(((3, 4),)), (99,)), (99, (0,)))
        self.assertEqual(best_part(Book(((3, 4),)), (1,)), (1, (0,)))

    def test_twelve_works(self):
        rnd = random.Random(133)
        self.assertEqual(best_part(TWELVE, (99,) * 12), (12 * 99, tuple(range(12))))
        for made in [random_windows, near_windows]:
            book = Book(made(rnd, 12, 30))
            for prices in [tuple(range(1, 13)), tuple(rnd.randint(0, 99) for _ in range(12))]:
                price, group = best_part(book, prices)
                self.assertEqual(price, sum(prices[work] for work in group))
                self.assertIsNotNone(one_order(part(book, group)))
                for work in range(12):
                    if work not in group and prices[work] > 0:
                        self.assertIsNone(one_order(part(book, tuple(sorted(group + (work,))))))

    def test_books_far_apart_put_together(self):
        rnd = random.Random(134)
        for seed in range(15):
            one, other = Book(near_windows(rnd, 5, 20)), Book(random_windows(rnd, 6, 20))
            first, second = tuple(rnd.randint(0, 99) for _ in range(5)), tuple(rnd.randint(1, 99) for _ in range(6))
            price, group = best_part(joined(one, shifted(other, 10 ** 7)), first + second)
            self.assertEqual(price, best_part(one, first)[0] + best_part(other, second)[0])
            self.assertEqual(tuple(work for work in group if work < 5), best_part(one, first)[1])
        four = joined(joined(W, shifted(W, 50)), joined(shifted(W, 100), shifted(W, 10 ** 30)))
        self.assertEqual(best_part(four, (5, 1, 3) * 4), (32, (0, 2, 3, 5, 6, 8, 9, 11)))
        self.assertEqual(best_part(four, (1,) * 12), (8, (0, 1, 3, 4, 6, 7, 9, 10)))


class Wrong(unittest.TestCase):
    def test_no_prices(self):
        for prices in NO_PRICES + STRANGE + [deep(kind) for kind in (tuple, list, dict)]:
            raised(self, NoPrices, best_part, W, prices)
            raised(self, NoPrices, best_part, THIRTEEN, prices)
            raised(self, NoPrices, best_part, W, (5, 1, (prices,)))
        for at in range(3):
            for price in [-1, 100, True]:
                raised(self, NoPrices, best_part, W, changed((5, 1, 3), at, price))
            self.assertGreaterEqual(best_part(W, changed((5, 1, 3), at, 99))[0], 99)

    def test_thirteen_works(self):
        for book in [THIRTEEN, great_book(1), great_book(2)]:
            many = len(book.windows)
            self.assertEqual(raised(self, TooMany, best_part, book, (1,) * many).most, 12)
            raised(self, NoPrices, best_part, book, (1,) * (many - 1))
            raised(self, NoPrices, best_part, book, (1,) * (many - 1) + (100,))
