"""13.1: windows narrowed."""

import random
import unittest
from itertools import product

from bymiddles.books import Book, joined, mirrored, part, shifted
from bymiddles.cuts import is_narrower, least_cut
from bymiddles.errors import TooLate, TooMany
from bymiddles.orders import has_one_order, one_order
from tests.plain import (STRANGE, U, W, changed, deep, great_book, near_windows, plain_one_orders, raised,
                         random_windows, small_books)

SMALL_W = Book(((0, 8), (2, 5), (4, 7)))


def narrower(book):
    """All narrower books as pairs (hours, windows)."""
    ways = [[(begin, end) for begin in range(first, last + 1) for end in range(begin, last + 1)]
            for first, last in book.windows]
    found = []
    for windows in product(*ways):
        pairs = list(zip(book.windows, windows))
        found.append((sum(inner[0] - outer[0] + outer[1] - inner[1] for outer, inner in pairs), windows))
    return found


def small(book):
    """Whether its hours are few enough."""
    return max(last for first, last in book.windows) <= 8


class LeastCut(unittest.TestCase):
    def check(self, book, has_order):
        """Looks at the least cut of a book by a look at all narrower books."""
        hours, other = least_cut(book)
        wanted = next(pair for pair in sorted(narrower(book)) if has_order(Book(pair[1])))
        self.assertEqual((hours, other.windows), wanted, book.windows)
        self.assertIsInstance(other, Book)
        self.assertIs(is_narrower(book, other), True)
        return hours

    def test_against_all_narrower_books(self):
        found = {}
        for book in small_books(151, 300, 3, 8) + small_books(152, 60, 4, 5) + [SMALL_W] + [
                Book(((2, 2), (0, last), (0, last), (0, last))) for last in range(3, 7)]:
            if small(book):
                found[self.check(book, has_one_order)] = True
        self.assertEqual(sorted(found), [0, 1, 2, 3, 4, 5, 6])

    def test_against_all_lots(self):
        found = {}
        for book in small_books(153, 60, 3, 4) + [Book(((2, 2), (3, 3), (0, 5)))]:
            found[self.check(book, lambda other: plain_one_orders(other.windows))] = True
        self.assertGreater(len(found), 1)

    def test_books_with_a_one_order(self):
        for book in [Book(((0, 8),) * 4), Book(((3, 3),)), Book(((0, 0),) * 4), Book(((0, 4), (1, 6), (2, 7), (5, 8)))]:
            self.assertEqual(least_cut(book), (0, book))
        for book in small_books(154, 80, 4, 6):
            if small(book):
                self.assertIs(least_cut(book)[0] == 0, one_order(book) is not None)

    def test_the_least_windows(self):
        hours, other = least_cut(SMALL_W)
        right = [windows for many, windows in narrower(SMALL_W) if many == hours and has_one_order(Book(windows))]
        self.assertGreater(len(right), 1)
        self.assertEqual(other, Book(min(right)))
        self.assertIsInstance(hours, int)

    def test_four_works_up_to_hour_eight(self):
        # The most hours that were seen to be needed.
        hours, other = least_cut(Book(((0, 8), (0, 8), (4, 4), (0, 8))))
        self.assertEqual((hours, other.windows), (8, ((0, 0), (0, 8), (4, 4), (0, 8))))
        rnd = random.Random(155)
        for at in range(40):
            book = Book(near_windows(rnd, 4, 6) if at % 2 else random_windows(rnd, 4, 8))
            hours, other = least_cut(book)
            pairs = list(zip(book.windows, other.windows))
            self.assertEqual(hours, sum(inner[0] - outer[0] + outer[1] - inner[1] for outer, inner in pairs))
            self.assertIsNotNone(one_order(other))
            self.assertIs(is_narrower(book, other), True)
            for at_work in range(4):
                self.assertGreaterEqual(hours, least_cut(part(book, tuple(work for work in range(4)
                                                                          if work != at_work)))[0])

    def test_books_that_were_returned(self):
        hours, other = least_cut(mirrored(SMALL_W))
        self.assertEqual(hours, least_cut(SMALL_W)[0])
        self.assertIs(is_narrower(mirrored(SMALL_W), other), True)
        self.assertEqual(least_cut(other), (0, other))

    def test_five_works(self):
        for book in [Book(((0, 8),) * 5), Book(((0, 9),) * 5), joined(SMALL_W, U), great_book(1), great_book(2)]:
            self.assertEqual(raised(self, TooMany, least_cut, book).most, 4)

    def test_hour_nine(self):
        for book in [Book(((0, 9),)), Book(((0, 0), (9, 9))), shifted(SMALL_W, 1), W, shifted(SMALL_W, 10 ** 30)]:
            self.assertEqual(raised(self, TooLate, least_cut, book).most, 8)
        self.assertEqual(least_cut(shifted(Book(((0, 3), (1, 7))), 1)), (0, Book(((1, 4), (2, 8)))))


class Narrower(unittest.TestCase):
    def test_equal_books(self):
        for book in [U, W, Book(((3, 3),)), great_book(2), shifted(W, 10 ** 39)]:
            self.assertIs(is_narrower(book, book), True)
            self.assertIs(is_narrower(book, part(book, tuple(range(len(book.windows))))), True)

    def test_one_hour_earlier_or_later(self):
        for work, (first, last) in enumerate(W.windows):
            for window, wanted in [((first + 1, last), True), ((first, last - 1), True), ((first + 1, last - 1), True),
                                   ((first, first), True), ((last, last), True), ((first, last + 1), False),
                                   ((first + 1, last + 1), False), ((last + 1, last + 1), False)]:
                self.assertIs(is_narrower(W, Book(changed(W.windows, work, window))), wanted, (work, window))
            if first > 0:
                for window in [(first - 1, last), (first - 1, last - 1), (first - 1, first - 1)]:
                    self.assertIs(is_narrower(W, Book(changed(W.windows, work, window))), False)

    def test_against_all_narrower_books(self):
        for book in small_books(156, 20, 3, 4):
            inner = {windows: True for hours, windows in narrower(book)}
            for other in small_books(157, 150, 3, 4):
                self.assertIs(is_narrower(book, other), other.windows in inner)

    def test_another_number_of_works(self):
        self.assertIs(is_narrower(W, Book(((0, 10), (2, 5)))), False)
        self.assertIs(is_narrower(W, joined(W, U)), False)
        self.assertIs(is_narrower(joined(W, U), W), False)
        self.assertIs(is_narrower(great_book(1), great_book(2)), False)

    def test_what_is_no_book(self):
        for thing in STRANGE + [deep(kind) for kind in (tuple, list, dict)] + [W.windows, list(W.windows), (W,), Book]:
            self.assertIs(is_narrower(W, thing), thing is W)
            self.assertIs(is_narrower(Book(((5, 6),)), thing), False)
        self.assertIs(is_narrower(Book(((0, 0),)), Book(((0, 0),))), True)
