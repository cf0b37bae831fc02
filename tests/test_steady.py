"""8.1 and 8.2: steady orders, and works that help or harm."""

import random
import unittest
from itertools import permutations

from bymiddles.books import Book, joined, part, shifted
from bymiddles.errors import NoOrder, TooMany
from bymiddles.orders import all_orders, one_order
from bymiddles.steady import harming, helping, is_steady, is_unsteady, steady, unsteady
from tests.plain import (STRANGE, U, V, W, changed, deep, great_book, group_there, plain_serves, raised, random_row,
                         served_by, small_books)

SIX = part(great_book(1), (0, 1, 2, 3, 4, 5))
SEVEN = part(great_book(1), (0, 1, 2, 3, 4, 5, 6))
# These have steady orders, but no one order; the other one has no steady order without its last work.
TIGHT = Book(((3, 3), (2, 2), (0, 5)))
HELPED = Book(((1, 4), (4, 6), (0, 6), (5, 5)))
# It has no steady order.
SHAKY = Book(((0, 10), (2, 8), (3, 6), (4, 9)))


def plain_steady(book):
    """All steady orders, by a look at all lots in which all works are there."""
    right = list(permutations(range(len(book.windows))))
    for orders in served_by(book.windows, False).values():
        right = [order for order in right if order in orders]
    return right


def without_work(book, work):
    """The book without this work."""
    return part(book, tuple(other for other in range(len(book.windows)) if other != work))


class Steady(unittest.TestCase):
    def check(self, book, order):
        """Looks at a pair by its words."""
        told = unsteady(book, order)
        self.assertIsInstance(told, tuple)
        lot, other = told
        self.assertEqual(group_there(lot), tuple(range(len(book.windows))))
        self.assertTrue(all(item >= 0 for item in lot))
        self.assertEqual(sorted(other), list(range(len(book.windows))))
        self.assertTrue(plain_serves(book.windows, other, lot), (book.windows, order, told))
        self.assertFalse(plain_serves(book.windows, order, lot), (book.windows, order, told))
        self.assertIs(is_unsteady(book, order, told), True)

    def test_against_all_lots(self):
        none = 0
        for book in small_books(81, 250, 4, 6):
            right = plain_steady(book)
            self.assertEqual(steady(book), min(right, default=None), book.windows)
            none += not right
            for order in permutations(range(len(book.windows))):
                self.assertIs(is_steady(book, order), order in right, (book.windows, order))
                if order in right:
                    self.assertIsNone(unsteady(book, order))
                else:
                    self.check(book, order)
        self.assertGreater(none, 10)

    def test_five_works(self):
        found = {}
        for book in small_books(82, 25, 5, 3):
            right = plain_steady(book)
            self.assertEqual(steady(book), min(right, default=None), book.windows)
            found[bool(right)] = True
        self.assertEqual(len(found), 2)

    def test_six_works(self):
        self.assertEqual(steady(SIX), (0, 1, 2, 3, 4, 5))
        self.assertIs(is_steady(SIX, (0, 1, 2, 3, 4, 5)), True)
        self.assertIs(is_steady(SIX, (1, 0, 2, 3, 4, 5)), False)
        self.assertIsNone(unsteady(SIX, (0, 1, 2, 3, 4, 5)))
        self.check(SIX, (0, 1, 2, 3, 5, 4))
        two = joined(W, shifted(W, 100))
        self.assertEqual(steady(W), None)
        self.assertEqual(steady(two), None)
        self.check(two, (0, 1, 2, 3, 4, 5))
        self.check(two, (3, 4, 5, 0, 1, 2))

    def test_books_without_a_steady_order(self):
        for book in [W, SHAKY, joined(SHAKY, shifted(U, 50))]:
            self.assertIsNone(steady(book))
            orders = list(permutations(range(len(book.windows))))
            for order in orders[::len(orders) // 20 + 1]:
                self.assertIs(is_steady(book, order), False)
                self.check(book, order)

    def test_steady_orders_where_there_is_no_one_order(self):
        for book in [TIGHT, HELPED]:
            self.assertIsNone(one_order(book))
            self.assertEqual([order for order in permutations(range(len(book.windows))) if is_steady(book, order)],
                             plain_steady(book))
            self.assertEqual(steady(book), plain_steady(book)[0])
        self.assertEqual(steady(TIGHT), (1, 0, 2))
        self.assertEqual(steady(HELPED), (0, 2, 3, 1))

    def test_one_orders_are_steady(self):
        for book in small_books(83, 150, 5, 30):
            for order in all_orders(book)[:5]:
                self.assertIs(is_steady(book, order), True)
                self.assertIsNone(unsteady(book, order))
            if one_order(book) is not None:
                self.assertLessEqual(steady(book), one_order(book))

    def test_one_work(self):
        book = Book(((3, 7),))
        self.assertEqual(steady(book), (0,))
        self.assertIs(is_steady(book, (0,)), True)
        self.assertIsNone(unsteady(book, (0,)))
        self.assertIs(is_unsteady(book, (0,), ((9,), (0,))), False)

    def test_things_that_are_no_steady_orders(self):
        self.assertIs(is_steady(V, (0, 1, 2)), True)
        for thing in [[0, 1, 2], (0, 1), (0, 1, 2, 2), (False, 1, 2), (0, True, 2), ((0, 1, 2),), "012", ()] + STRANGE:
            self.assertIs(is_steady(V, thing), False)
        for kind in [tuple, list, dict]:
            self.assertIs(is_steady(V, deep(kind)), False)


class Unsteady(unittest.TestCase):
    def test_pairs_with_something_changed(self):
        right = ((5, 0, 4), (0, 1, 2))
        self.assertIs(is_unsteady(W, (1, 0, 2), right), True)
        wrong = [list(right), right[:1], right + (0,), right[::-1], ((5, 0, 4), [0, 1, 2]), ([5, 0, 4], (0, 1, 2)),
                 ((5, 0, 4), (1, 0, 2)), ((5, 0, 4), (0, 2)), ((5, 0, 4), (0, 1, 2, 0)), ((5, 0, 4), (False, 1, 2)),
                 ((5, None, 4), (0, 2)), ((5, None, 4), (0, 1, 2)), ((5, 0, None), (0, 1)), ((1, 0, 1), (0, 1, 2)),
                 ((5, 0, 4), (2, 0, 1)), ((5, 0), (0, 1, 2)), ((None,) * 3, ()), ((5, 0, 4), (0, True, 2))]
        for thing in wrong + [(changed((5, 0, 4), at, item), (0, 1, 2)) for at in range(3)
                              for item in [6, -1, True, "5", None, [5]]]:
            self.assertIs(is_unsteady(W, (1, 0, 2), thing), False, thing)
        self.assertIs(is_unsteady(W, (0, 1, 2), right), False)

    def test_other_things(self):
        for thing in STRANGE + [deep(kind) for kind in (tuple, list, dict)]:
            self.assertIs(is_unsteady(W, (1, 0, 2), thing), False)
            self.assertIs(is_unsteady(W, (1, 0, 2), (thing, (0, 1, 2))), False)
            self.assertIs(is_unsteady(W, (1, 0, 2), ((5, 0, 4), thing)), False)

    def test_all_small_pairs(self):
        rnd = random.Random(84)
        for book in small_books(84, 60, 4, 5):
            order = random_row(rnd, range(len(book.windows)))
            table = served_by(book.windows, False)
            for lot in rnd.sample(sorted(table), min(10, len(table))):
                for other in permutations(range(len(book.windows))):
                    wanted = other in table[lot] and order not in table[lot]
                    self.assertIs(is_unsteady(book, order, (lot, other)), wanted)

    def test_pairs_in_which_somebody_is_away(self):
        self.assertIs(is_unsteady(W, (0, 1, 2), ((4, 2, 0), (1, 0, 2))), True)
        self.assertIs(is_unsteady(W, (0, 1, 2), ((4, 2, None), (1, 0))), False)
        self.assertIs(is_unsteady(W, (0, 1, 2), ((4, 2, None), (1, 0, 2))), False)


class Turning(unittest.TestCase):
    def test_against_the_book_without_each_work(self):
        found = {}
        for book in small_books(85, 200, 5, 12):
            works = range(len(book.windows))
            has_one = steady(book) is not None
            other = []
            if len(works) > 1:
                other = [work for work in works if (steady(without_work(book, work)) is not None) != has_one]
            self.assertEqual(helping(book), other if has_one else [])
            self.assertEqual(harming(book), [] if has_one else other)
            found[has_one, bool(other)] = True
        self.assertEqual(len(found), 4)

    def test_against_all_lots(self):
        for book in small_books(86, 60, 4, 4):
            if len(book.windows) > 1:
                has_one = bool(plain_steady(book))
                other = [work for work in range(len(book.windows))
                         if bool(plain_steady(without_work(book, work))) != has_one]
                self.assertEqual(helping(book), other if has_one else [])
                self.assertEqual(harming(book), [] if has_one else other)

    def test_works_that_harm(self):
        self.assertEqual(harming(W), [0, 1, 2])
        self.assertEqual(helping(W), [])
        book = joined(W, Book(((500, 501),)))
        self.assertEqual(harming(book), [0, 1, 2])

    def test_a_work_that_helps(self):
        self.assertEqual(helping(HELPED), [3])
        self.assertEqual(harming(HELPED), [])
        self.assertIsNone(steady(without_work(HELPED, 3)))
        self.assertEqual(helping(Book(((0, 2), (2, 2), (0, 3), (0, 2), (1, 1)))), [1, 4])
        self.assertEqual(helping(TIGHT), [])

    def test_one_work(self):
        for book in [Book(((0, 9),)), Book(((5, 5),))]:
            self.assertEqual(helping(book), [])
            self.assertEqual(harming(book), [])

    def test_six_works(self):
        self.assertEqual(helping(SIX), [])
        self.assertEqual(harming(SIX), [])
        two = joined(W, joined(shifted(U, 40), Book(((90, 99),))))
        self.assertEqual(harming(two), [0, 1, 2])


class Wrong(unittest.TestCase):
    def test_seven_works(self):
        right = ((0,) * 7, (0, 1, 2, 3, 4, 5, 6))
        for book in [SEVEN, great_book(1), great_book(2)]:
            order = tuple(range(len(book.windows)))
            for thing in STRANGE + [order, list(order), order[::-1], deep(tuple)]:
                self.assertEqual(raised(self, TooMany, is_steady, book, thing).most, 6)
            for thing in [right, None, deep(list)]:
                self.assertEqual(raised(self, TooMany, is_unsteady, book, order, thing).most, 6)
            self.assertEqual(raised(self, TooMany, unsteady, book, order).most, 6)
            for call in [steady, helping, harming]:
                self.assertEqual(raised(self, TooMany, call, book).most, 6)

    def test_no_order(self):
        for order in STRANGE + [(0, 1), [0, 1, 2], (0, 1, 2, 0), (0, 0, 1), (0, True, 2), (1, 2, 3), ()]:
            raised(self, NoOrder, unsteady, W, order)
            raised(self, NoOrder, is_unsteady, W, order, ((5, 0, 4), (0, 1, 2)))
            raised(self, NoOrder, unsteady, SEVEN, order)
            raised(self, NoOrder, is_unsteady, SEVEN, order, None)
