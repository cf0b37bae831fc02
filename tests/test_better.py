"""9.1 and 9.2: orders compared."""

import random
import unittest
from itertools import permutations

from bymiddles.better import as_good, best, classes, is_missed, missed
from bymiddles.books import Book, joined, part, shifted
from bymiddles.errors import NoOrder, TooMany
from bymiddles.orders import all_orders, one_order
from tests.plain import (STRANGE, U, V, W, changed, deep, great_book, group_there, near_windows, plain_serves, raised,
                         random_row, random_windows, served_by, small_books)

EIGHT = tuple(range(8))
NINE = tuple(range(9))
NO_ORDERS = [(0, 1), [0, 1, 2], (0, 1, 2, 0), (0, 0, 1), (0, True, 2), (1, 2, 3), (), ((0, 1, 2),)]


def lots_by_order(book):
    """For each order the lots that it serves, by a look at all lots."""
    found = {order: [] for order in permutations(range(len(book.windows)))}
    for lot, orders in served_by(book.windows).items():
        for order in orders:
            found[order].append(lot)
    return {order: set(lots) for order, lots in found.items()}


class Two(unittest.TestCase):
    def check(self, book, one, other, lot):
        """Looks at a missed lot by its words."""
        self.assertIsInstance(lot, tuple)
        self.assertEqual(len(lot), len(book.windows))
        self.assertTrue(all(item is None or item >= 0 for item in lot))
        self.assertTrue(plain_serves(book.windows, other, lot))
        self.assertFalse(plain_serves(book.windows, one, lot))
        self.assertIs(is_missed(book, one, other, lot), True)

    def test_against_all_lots(self):
        sizes = {}
        rnd = random.Random(91)
        for book in small_books(91, 150, 4, 6):
            lots = lots_by_order(book)
            for one, other in rnd.sample([(a, b) for a in lots for b in lots], min(36, len(lots) ** 2)):
                wanted = lots[other] - lots[one]
                self.assertIs(as_good(book, one, other), not wanted, (book.windows, one, other))
                lot = missed(book, one, other)
                if not wanted:
                    self.assertIsNone(lot)
                    continue
                self.check(book, one, other, lot)
                self.assertEqual(len(group_there(lot)), min(len(group_there(least)) for least in wanted))
                sizes[len(group_there(lot))] = True
        self.assertEqual(sorted(sizes)[:2], [2, 3])

    def test_lots_with_any_number_there(self):
        rnd = random.Random(92)
        for book in small_books(92, 60, 4, 5):
            lots = lots_by_order(book)
            one, other = random_row(rnd, range(len(book.windows))), random_row(rnd, range(len(book.windows)))
            for lot in served_by(book.windows):
                self.assertIs(is_missed(book, one, other, lot), lot in lots[other] and lot not in lots[one])
            if lots[other] - lots[one]:
                lot = max(lots[other] - lots[one], key=lambda lot: len(group_there(lot)))
                self.assertIs(is_missed(book, one, other, lot), True)

    def test_an_order_is_as_good_as_itself(self):
        for book in [U, V, W, Book(((4, 4),)), Book(((0, 9), (0, 9), (0, 9)))]:
            for order in permutations(range(len(book.windows))):
                self.assertIs(as_good(book, order, order), True)
                self.assertIsNone(missed(book, order, order))

    def test_one_orders_are_as_good_as_all(self):
        rnd = random.Random(93)
        for book in small_books(93, 100, 7, 30):
            for order in all_orders(book)[:2]:
                self.assertIs(as_good(book, order, random_row(rnd, range(len(book.windows)))), True)

    def test_windows_that_are_one(self):
        book = Book(((2, 9),) * 4)
        for one in permutations(range(4)):
            self.assertIs(as_good(book, one, (2, 0, 3, 1)), True)
            self.assertIsNone(missed(book, one, (2, 0, 3, 1)))
            self.assertIs(is_missed(book, one, (2, 0, 3, 1), (7, 0, 0, 0)), False)

    def test_eight_works(self):
        rnd = random.Random(94)
        for made in [near_windows, random_windows]:
            for _ in range(10):
                book = Book(made(rnd, 8, 50))
                one, other = random_row(rnd, EIGHT), random_row(rnd, EIGHT)
                self.check(book, one, other, missed(book, one, other))
                self.assertIs(as_good(book, one, other), False)
        book = part(great_book(1), EIGHT)
        self.assertIs(as_good(book, EIGHT, EIGHT[::-1]), True)
        self.assertIs(as_good(book, EIGHT[::-1], EIGHT), False)

    def test_wrong_lots(self):
        one, other = (1, 0, 2), (0, 1, 2)
        right = (5, 0, 4)
        self.assertIs(is_missed(W, one, other, right), True)
        self.assertIs(is_missed(W, other, one, right), False)
        for thing in [list(right), right[:2], right + (0,), (right,), (right, other), (5, 0, 5), (1, 0, 1)] + STRANGE:
            self.assertIs(is_missed(W, one, other, thing), False, thing)
        for at in range(3):
            for item in [-1, 6, True, False, "5", [5], (5,)]:
                self.assertIs(is_missed(W, one, other, changed(right, at, item)), False)
        for kind in [tuple, list, dict]:
            self.assertIs(is_missed(W, one, other, deep(kind)), False)
            self.assertIs(is_missed(W, one, other, changed(right, 1, deep(kind, 39))), False)

    def test_lots_of_nine_works(self):
        book = part(great_book(1), NINE)
        lot = (5,) + (None,) * 4 + (5,) + (None,) * 3
        self.assertIs(is_missed(book, NINE[::-1], NINE, lot), True)
        self.assertIs(is_missed(book, NINE, NINE[::-1], lot), False)
        many = great_book(2)
        order = tuple(range(80))
        self.assertIs(is_missed(many, order[::-1], order, (0,) * 80), True)

    def test_errors(self):
        nine = part(great_book(1), NINE)
        for wrong in NO_ORDERS + STRANGE:
            for book, right in [(W, (0, 1, 2)), (nine, NINE)]:
                for one, other in [(wrong, right), (right, wrong), (wrong, wrong)]:
                    raised(self, NoOrder, as_good, book, one, other)
                    raised(self, NoOrder, missed, book, one, other)
                    raised(self, NoOrder, is_missed, book, one, other, (5, 0, 4))
                    raised(self, NoOrder, is_missed, book, one, other, None)
        for book in [nine, great_book(1), great_book(2)]:
            order = tuple(range(len(book.windows)))
            self.assertEqual(raised(self, TooMany, as_good, book, order, order).most, 8)
            self.assertEqual(raised(self, TooMany, missed, book, order[::-1], order).most, 8)


class All(unittest.TestCase):
    def test_against_all_lots(self):
        found = {}
        for book in small_books(95, 200, 4, 6):
            lots = lots_by_order(book)
            wanted = [one for one in lots if not any(lots[one] < lots[other] for other in lots)]
            self.assertEqual(best(book), sorted(wanted), book.windows)
            alike = sorted(sorted(other for other in lots if lots[other] == lots[one]) for one in lots)
            self.assertEqual(classes(book), [group for at, group in enumerate(alike) if group not in alike[:at]])
            found[len(set(frozenset(lots[one]) for one in wanted))] = True
        self.assertGreater(len(found), 2)

    def test_five_works(self):
        for book in small_books(96, 12, 5, 2):
            lots = lots_by_order(book)
            self.assertEqual(best(book), sorted(one for one in lots if not any(lots[one] < lots[other]
                                                                               for other in lots)))
            for group in classes(book):
                self.assertEqual(group, sorted(one for one in lots if lots[one] == lots[group[0]]))
        rnd = random.Random(97)
        for made in [near_windows, random_windows]:
            book = Book(made(rnd, 5, 100))
            for order in best(book):
                for other in best(book):
                    self.assertEqual(as_good(book, order, other), as_good(book, other, order))
            self.assertEqual(sorted(order for group in classes(book) for order in group),
                             list(permutations(range(5))))

    def test_one_orders_are_the_best(self):
        found = {}
        for book in small_books(98, 100, 5, 12):
            listed = classes(book)
            alone = best(book) in listed
            self.assertIs(alone, one_order(book) is not None)
            if alone:
                self.assertEqual(best(book), all_orders(book))
            found[alone] = True
        self.assertEqual(len(found), 2)

    def test_windows_that_are_one(self):
        book = Book(((2, 9),) * 4)
        self.assertEqual(best(book), list(permutations(range(4))))
        self.assertEqual(classes(book), [list(permutations(range(4)))])
        self.assertEqual(best(Book(((3, 4),))), [(0,)])
        self.assertEqual(classes(Book(((3, 4),))), [[(0,)]])
        self.assertEqual(classes(U), [[(0, 1), (1, 0)]])

    def test_w(self):
        self.assertEqual(best(W), [(0, 1, 2), (1, 0, 2), (1, 2, 0)])
        self.assertEqual(len(classes(W)), 6)

    def test_six_works(self):
        for book in [joined(W, shifted(W, 20)), great_book(1), great_book(2)]:
            for call in [best, classes]:
                self.assertEqual(raised(self, TooMany, call, book).most, 5)
