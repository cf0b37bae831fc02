"""10.1: shelves."""

import random
import unittest
from itertools import combinations, permutations

from bymiddles.books import Book, joined, part, shifted
from bymiddles.errors import TooLate, TooMany
from bymiddles.orders import all_orders, one_order
from bymiddles.shelves import is_shelf, shelf
from tests.plain import STRANGE, deep, great_book, near_windows, raised, random_windows, served_by, small_books

SMALL_W = Book(((0, 8), (2, 5), (4, 7)))
# A book of four works that needs six orders.
SIX_NEEDED = Book(((0, 6), (0, 6), (0, 6), (4, 4)))


def is_plain_shelf(table, orders):
    """Whether each lot that is served at all is served by one of these orders."""
    return all(any(order in orders for order in found) for found in table.values())


def plain_shelf(windows):
    """The least shelf of as few orders as any, by a look at all tuples of orders."""
    table = served_by(windows)
    needed = sorted(set(tuple(found) for found in table.values()), key=len)
    orders = list(permutations(range(len(windows))))
    for size in range(1, len(orders) + 1):
        for chosen in combinations(orders, size):
            if all(any(order in chosen for order in found) for found in needed):
                return chosen


class Shelf(unittest.TestCase):
    def test_against_all_lots(self):
        sizes = {}
        for book in small_books(101, 120, 3, 8) + small_books(102, 80, 4, 4):
            if max(last for first, last in book.windows) <= 8:
                wanted = plain_shelf(book.windows)
                self.assertEqual(shelf(book), wanted, book.windows)
                self.assertIs(is_shelf(book, wanted), True)
                sizes[len(wanted)] = True
        self.assertEqual(sorted(sizes)[:3], [1, 2, 3])

    def test_four_works_up_to_hour_eight(self):
        rnd = random.Random(103)
        sizes = {}
        for at in range(30):
            book = Book(near_windows(rnd, 4, 6) if at % 2 else random_windows(rnd, 4, 8))
            told = shelf(book)
            table = served_by(book.windows)
            self.assertTrue(is_plain_shelf(table, told), book.windows)
            for gone in told:
                left = tuple(order for order in told if order != gone)
                self.assertFalse(is_plain_shelf(table, left))
                self.assertIs(is_shelf(book, left), False)
            self.assertIs(is_shelf(book, told), True)
            sizes[len(told)] = True
        self.assertGreater(len(sizes), 2)

    def test_many_orders_needed(self):
        told = shelf(SIX_NEEDED)
        self.assertEqual(len(told), 6)
        self.assertEqual(told, plain_shelf(SIX_NEEDED.windows))
        self.assertEqual(len(shelf(Book(((0, 8), (0, 8), (4, 5), (0, 8))))), 6)
        self.assertEqual(len(shelf(Book(((2, 2), (0, 5), (0, 5), (0, 5))))), 5)

    def test_a_one_order_is_a_shelf(self):
        found = {}
        for book in small_books(104, 120, 4, 6):
            if max(last for first, last in book.windows) <= 8:
                found[len(shelf(book)) == 1] = True
                if one_order(book) is None:
                    self.assertGreater(len(shelf(book)), 1)
                else:
                    self.assertEqual(shelf(book), (one_order(book),))
                    for order in all_orders(book):
                        self.assertIs(is_shelf(book, (order,)), True)
        self.assertEqual(len(found), 2)

    def test_all_tuples_of_orders(self):
        for book in small_books(105, 25, 3, 5) + [SMALL_W]:
            table = served_by(book.windows)
            orders = list(permutations(range(len(book.windows))))
            for size in range(len(orders) + 1):
                for chosen in combinations(orders, size):
                    self.assertIs(is_shelf(book, chosen), is_plain_shelf(table, chosen), (book.windows, chosen))

    def test_edges_of_the_hours(self):
        for windows in [((8, 8),) * 4, ((0, 8),) * 4, ((0, 0), (8, 8), (0, 8), (4, 4)), ((0, 0),)]:
            book = Book(windows)
            self.assertIs(is_shelf(book, shelf(book)), True)
            self.assertIs(is_shelf(book, tuple(permutations(range(len(windows))))), True)
        self.assertEqual(shelf(Book(((8, 8),) * 4)), ((0, 1, 2, 3),))
        self.assertEqual(shelf(Book(((0, 0),))), ((0,),))


class Judged(unittest.TestCase):
    def test_order_and_repeats(self):
        right = shelf(SMALL_W)
        self.assertEqual(len(right), 2)
        self.assertIs(is_shelf(SMALL_W, right), True)
        for thing in [right[::-1], right + right[-1:], right[:1] + right, list(right), [list(order) for order in right],
                      tuple(list(order) for order in right), right[:1], right[1:], (right,), right[0], (), [], {},
                      right + (None,), right + ((2, 1),), right + ((2, 1, 3),), right + ((2, 1, 0, 0),),
                      {order: True for order in right}, right + ((True, 2, 0),)]:
            self.assertIs(is_shelf(SMALL_W, thing), False, thing)
        everything = tuple(permutations(range(3)))
        self.assertIs(is_shelf(SMALL_W, everything), True)
        self.assertIs(is_shelf(SMALL_W, everything[::-1]), False)
        self.assertIs(is_shelf(SMALL_W, everything + everything[-1:]), False)

    def test_flags_are_no_works(self):
        book = Book(((0, 4), (1, 8)))
        self.assertIs(is_shelf(book, ((0, 1),)), True)
        for thing in [((False, 1),), ((0, True),), ((False, True),), ([0, 1],), [(0, 1)]]:
            self.assertIs(is_shelf(book, thing), False)

    def test_the_empty_tuple_is_none(self):
        for book in small_books(106, 30, 4, 4):
            self.assertIs(is_shelf(book, ()), False)

    def test_other_things(self):
        for thing in STRANGE + [deep(kind) for kind in (tuple, list, dict)]:
            self.assertIs(is_shelf(SMALL_W, thing), False)
            self.assertIs(is_shelf(SMALL_W, (thing,)), False)
            self.assertIs(is_shelf(SMALL_W, (thing,) + shelf(SMALL_W)), False)


class Wrong(unittest.TestCase):
    def test_five_works(self):
        for book in [Book(((0, 8),) * 5), Book(((0, 9),) * 5), joined(SMALL_W, shifted(SMALL_W, 2)), great_book(1),
                     great_book(2)]:
            self.assertEqual(raised(self, TooMany, shelf, book).most, 4)
            for thing in STRANGE + [(tuple(range(len(book.windows))),)]:
                self.assertEqual(raised(self, TooMany, is_shelf, book, thing).most, 4)

    def test_hour_nine(self):
        for book in [Book(((0, 9),)), Book(((0, 0), (9, 9))), shifted(SMALL_W, 1), part(great_book(1), (3, 4, 38, 39)),
                     shifted(SMALL_W, 10 ** 30)]:
            self.assertEqual(raised(self, TooLate, shelf, book).most, 8)
            for thing in STRANGE + [(tuple(range(len(book.windows))),)]:
                self.assertEqual(raised(self, TooLate, is_shelf, book, thing).most, 8)
