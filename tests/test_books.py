"""1.1 to 1.4: books, rows, orders, groups, lots and books made of books."""

import random
import unittest
from unittest import mock

from bymiddles.books import (Book, is_group, is_lot, is_order, is_row, joined, middle, mirrored, part, shifted,
                             there, within)
from bymiddles.errors import BadBook, NoGroup, NoLot, NoNumber, NoWork
from tests.plain import STRANGE, U, V, W, great_book, random_windows


class Books(unittest.TestCase):
    def test_windows_at_the_edges(self):
        for windows in [((0, 0),), ((0, 10 ** 6),), ((10 ** 6, 10 ** 6),), ((3, 3), (2, 4)), ((0, 1),) * 40]:
            self.assertEqual(Book(windows).windows, windows)

    def test_bad_windows(self):
        window = (0, 1)
        bad = [(), (window,) * 41, ((1, 0),), ((-1, 0),), ((-2, -1),), ((0, 10 ** 6 + 1),), ((10 ** 6 + 1,) * 2,),
               ((False, 1),), ((0, True),), ((False, True),), ([0, 1],), [window], [[0, 1]], ((0,),), ((0, 1, 2),),
               ((),), (None,), ((None, 1),), ((0, None),), (("0", "1"),), ("01",), (b"01",), (0, 1), window,
               (window, (1, 0)), (window, None), ((0, (1,)),), {window: window}, {0: window}, "", "ab", (W,),
               ({0: 1, 1: 2},), (window,) * 39 + ((5, 4),)]
        for windows in bad + STRANGE:
            with self.assertRaises(BadBook, msg=repr(windows)[:80]):
                Book(windows)

    def test_equal_just_if_windows_are(self):
        self.assertTrue(W == Book(((0, 10), (2, 5), (4, 9))))
        self.assertFalse(W != Book(((0, 10), (2, 5), (4, 9))))
        for other in [V, U, Book(((2, 5), (0, 10), (4, 9))), Book(((0, 10), (2, 5))), Book(((0, 10), (2, 5), (4, 8)))]:
            self.assertFalse(W == other)
            self.assertTrue(W != other)

    def test_equal_to_nothing_else(self):
        one = Book(((0, 0),))
        for thing in [one.windows, [one.windows], mock.ANY, "Book", ((0, 0),)] + [x for x in STRANGE if x != one]:
            self.assertIs(one == thing, False)
            self.assertIs(one != thing, True)
        self.assertEqual([thing for thing in STRANGE if isinstance(thing, Book) and thing == one], [one])

    def test_books_of_functions_are_equal_to_constructed_ones(self):
        self.assertEqual(part(W, (0, 2)), Book(((0, 10), (4, 9))))
        self.assertEqual(Book(((0, 10), (4, 9))), part(W, (0, 2)))
        self.assertEqual(shifted(W, 0), W)
        self.assertEqual(joined(U, U), Book(((0, 10), (4, 6), (0, 10), (4, 6))))
        self.assertNotEqual(part(W, (0, 2)), W)


class Middles(unittest.TestCase):
    def test_middle(self):
        self.assertEqual([middle(W, work) for work in range(3)], [10, 7, 13])
        self.assertEqual(middle(Book(((10 ** 6, 10 ** 6),)), 0), 2 * 10 ** 6)

    def test_within(self):
        self.assertEqual([within(W, work) for work in range(3)], [(1, 2), (), ()])
        same = Book(((0, 9), (0, 9), (0, 8), (1, 9), (1, 8), (0, 0), (4, 4), (8, 9)))
        self.assertEqual([within(same, work) for work in range(8)],
                         [(4, 6), (4, 6), (6,), (6,), (6,), (), (), ()])

    def test_within_by_its_words(self):
        rnd = random.Random(1)
        for _ in range(100):
            windows = random_windows(rnd, 6, 9)
            for work, (first, last) in enumerate(windows):
                found = tuple(b for b in range(6) if windows[b][0] > first and windows[b][1] < last)
                self.assertEqual(within(Book(windows), work), found)

    def test_no_work(self):
        for work in [3, 4, 40, (0,)] + STRANGE:
            for function in (middle, within):
                with self.assertRaises(NoWork):
                    function(W, work)
        with self.assertRaises(NoWork):
            middle(U, 2)


class Rows(unittest.TestCase):
    def test_rows(self):
        for row in [(), (0,), (2,), (1, 0), (0, 2), (2, 0, 1)]:
            self.assertIs(is_row(W, row), True)
        for row in [(3,), (0, 3), (0, 0), (0, 1, 0), (0, 1, 2, 0), (-1, 0), [0, 1], (0, "1"), (1, None)] + STRANGE:
            self.assertIs(is_row(W, row), False)

    def test_orders(self):
        for order in [(0, 1, 2), (2, 1, 0), (1, 2, 0)]:
            self.assertIs(is_order(W, order), True)
        for order in [(), (0, 1), (0, 1, 1), (1, 2, 3), (0, 1, 2, 3), [0, 1, 2], (0, True, 2), (False, 1, 2)]:
            self.assertIs(is_order(W, order), False)
        for order in STRANGE:
            self.assertIs(is_order(W, order), False)

    def test_groups(self):
        for group in [(), (0,), (0, 2), (1, 2), (0, 1, 2)]:
            self.assertIs(is_group(W, group), True)
        for group in [(1, 0), (0, 2, 1), (0, 0), (0, 0, 1), (0, 3), [0, 1], (0, True)] + STRANGE:
            self.assertIs(is_group(W, group), False)

    def test_lots(self):
        for lot in [(None, None, None), (0, 0, 0), (None, 5, 0), (10 ** 39, 1, None)]:
            self.assertIs(is_lot(W, lot), True)
        for lot in [(), (0, 0), (0, 0, 0, 0), [0, 0, 0], (0, -1, 0), (True, 0, 0), (0, 0, False), (0, "1", 2),
                    (0, (1,), 2), (None, None, []), None] + STRANGE:
            self.assertIs(is_lot(W, lot), False, repr(lot)[:80])

    def test_there(self):
        self.assertEqual(there(W, (None, None, None)), ())
        self.assertEqual(there(W, (0, None, 7)), (0, 2))
        self.assertEqual(there(W, (0, 0, 10 ** 39)), (0, 1, 2))
        for lot in [(0, 0), (0, 0, 0, 0), (True, 0, 0), (0, -1, None), [0, 0, 0]] + STRANGE:
            with self.assertRaises(NoLot):
                there(W, lot)


class BooksOfBooks(unittest.TestCase):
    def test_part(self):
        self.assertEqual(part(W, (0, 1, 2)), W)
        self.assertEqual(part(W, (1, 2)).windows, ((2, 5), (4, 9)))
        self.assertEqual(part(W, (2,)).windows, ((4, 9),))

    def test_part_of_joined(self):
        book = joined(joined(W, V), U)
        self.assertEqual(part(book, (0, 1, 2)), W)
        self.assertEqual(part(book, (3, 4, 5)), V)
        self.assertEqual(part(book, (6, 7)), U)
        self.assertEqual(part(book, (2, 3, 7)).windows, ((4, 9), (0, 6), (4, 6)))

    def test_no_group(self):
        for group in [(), (1, 0), (0, 0), (3,), (0, 1, 3), [0, 1], (True,), (0, True)] + STRANGE:
            with self.assertRaises(NoGroup):
                part(W, group)

    def test_joined(self):
        self.assertEqual(joined(U, V).windows, ((0, 10), (4, 6), (0, 6), (3, 8), (5, 12)))
        self.assertEqual(joined(V, U).windows, ((0, 6), (3, 8), (5, 12), (0, 10), (4, 6)))

    def test_joined_beyond_forty_works(self):
        book = great_book(3)
        self.assertEqual(len(book.windows), 120)
        self.assertEqual(middle(book, 119), 2 * 119 + 5)
        self.assertTrue(is_order(book, tuple(range(120))))
        self.assertEqual(part(book, tuple(range(40))), great_book(1))
        self.assertEqual(len(part(book, tuple(range(100))).windows), 100)
        self.assertEqual(joined(part(book, tuple(range(41))), part(book, tuple(range(41, 120)))), book)
        with self.assertRaises(BadBook):
            Book(book.windows)

    def test_shifted(self):
        self.assertEqual(shifted(W, 3).windows, ((3, 13), (5, 8), (7, 12)))
        book = Book(((4, 6), (9, 9)))
        self.assertEqual(shifted(book, -4).windows, ((0, 2), (5, 5)))
        self.assertEqual(shifted(shifted(book, 10 ** 39), -10 ** 39), book)
        self.assertEqual(shifted(book, 10 ** 6).windows, ((10 ** 6 + 4, 10 ** 6 + 6), (10 ** 6 + 9, 10 ** 6 + 9)))
        for by in (-5, -6, -10 ** 39):
            with self.assertRaises(NoNumber):
                shifted(book, by)
        for by in [thing for thing in STRANGE if type(thing) is not int]:
            with self.assertRaises(NoNumber):
                shifted(W, by)

    def test_mirrored(self):
        self.assertEqual(mirrored(W).windows, ((0, 10), (5, 8), (1, 6)))
        self.assertEqual(mirrored(Book(((2, 3), (5, 7)))).windows, ((4, 5), (0, 2)))

    def test_mirrored_twice(self):
        rnd = random.Random(2)
        for _ in range(50):
            book = Book(random_windows(rnd, 4, 9))
            least = min(first for first, last in book.windows)
            self.assertEqual(mirrored(mirrored(book)), shifted(book, -least))
        self.assertEqual(mirrored(mirrored(W)), W)

    def test_books_of_any_size_go_on(self):
        book = shifted(great_book(2), 10 ** 39)
        self.assertEqual(mirrored(book).windows[79], (0, 5))
        self.assertEqual(within(joined(book, Book(((0, 0),))), 80), ())
