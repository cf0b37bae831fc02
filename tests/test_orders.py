"""5.1 and 5.2: throws and one orders."""

import random
import unittest
from itertools import permutations
from math import factorial

from bymiddles.books import Book, joined, mirrored, part, shifted
from bymiddles.errors import NoNumber, NoOrder, TooMany
from bymiddles.orders import all_orders, is_one_order, many_orders, one_order, order_at, throws
from tests.plain import STRANGE, U, V, W, great_book, plain_one_orders, random_row, small_books


def plain_throws(windows, order):
    """The throws by their definition."""
    place = {work: at for at, work in enumerate(order)}
    works = range(len(windows))
    found = []
    for a in works:
        for b in works:
            if place[a] < place[b] and sum(windows[a]) > sum(windows[b]):
                found.append(("middle", a, b))
            if not (windows[b][0] > windows[a][0] and windows[b][1] < windows[a][1]):
                continue
            for c in works:
                if place[b] < place[a] < place[c] and windows[c][0] < sum(windows[b]) - windows[a][0]:
                    found.append(("front", a, b, c))
                if place[c] < place[a] < place[b] and windows[c][1] > sum(windows[b]) - windows[a][1]:
                    found.append(("back", a, b, c))
    return sorted(found)


def apart(times, windows):
    """A book of these windows again and again, each time far behind."""
    return Book(tuple((first + 1000 * at, last + 1000 * at) for at in range(times) for first, last in windows))


class Throws(unittest.TestCase):
    def test_throws(self):
        self.assertEqual(throws(W, (1, 0, 2)), [("back", 0, 2, 1), ("front", 0, 1, 2)])
        self.assertEqual(throws(V, (0, 1, 2)), [])
        self.assertEqual(throws(V, (2, 1, 0)), [("middle", 1, 0), ("middle", 2, 0), ("middle", 2, 1)])
        self.assertEqual(throws(W, (0, 1, 2)), [("middle", 0, 1)])

    def test_by_the_definition(self):
        rnd = random.Random(31)
        kinds = {}
        for book in small_books(31, 400, 6, 12):
            order = random_row(rnd, range(len(book.windows)))
            found = throws(book, order)
            self.assertEqual(found, plain_throws(book.windows, order))
            self.assertIs(is_one_order(book, order), found == [])
            for throw in found:
                kinds[throw[0]] = kinds.get(throw[0], 0) + 1
        self.assertEqual(sorted(kinds), ["back", "front", "middle"])

    def test_at_the_edges(self):
        # The first hour of the last work is just as great as it must be, and an hour less.
        self.assertEqual(throws(Book(((0, 10), (2, 5), (7, 9))), (1, 0, 2)), [])
        self.assertEqual(throws(Book(((0, 10), (2, 5), (6, 9))), (1, 0, 2)), [("front", 0, 1, 2)])
        self.assertEqual(throws(Book(((0, 10), (2, 5), (7, 11))), (1, 0, 2)), [])
        self.assertEqual(throws(Book(((0, 10), (2, 5), (6, 11))), (1, 0, 2)), [("front", 0, 1, 2)])
        # Likewise the last hour of the first work.
        self.assertEqual(throws(Book(((0, 10), (5, 8), (0, 3))), (2, 0, 1)), [])
        self.assertEqual(throws(Book(((0, 10), (5, 8), (0, 4))), (2, 0, 1)), [("back", 0, 1, 2)])
        # A window with an hour in common lies not within.
        self.assertEqual(throws(Book(((0, 10), (0, 5), (6, 11))), (1, 0, 2)), [])
        self.assertEqual(throws(Book(((0, 5), (2, 5), (3, 9))), (0, 1, 2)), [])

    def test_no_order(self):
        for order in STRANGE + [(0, 1), (0, 1, 2, 0), [0, 1, 2], (0, 0, 1), (0, True, 2), (1, 2, 3), ()]:
            with self.assertRaises(NoOrder):
                throws(W, order)


class OneOrders(unittest.TestCase):
    def test_against_all_lots(self):
        sizes = {}
        for book in small_books(32, 300, 4, 5):
            right = plain_one_orders(book.windows)
            works = len(book.windows)
            for order in permutations(range(works)):
                self.assertIs(is_one_order(book, order), order in right, (book.windows, order))
            self.assertEqual(all_orders(book), right)
            self.assertEqual(many_orders(book), len(right))
            self.assertEqual(one_order(book), right[0] if right else None)
            self.assertEqual([order_at(book, number) for number in range(len(right))], right)
            sizes[works, min(len(right), 2)] = True
        for works in (1, 2, 3, 4):
            self.assertIn((works, min(works, 2)), sizes)
        self.assertIn((3, 0), sizes)
        self.assertIn((4, 0), sizes)

    def test_against_all_orders_of_more_works(self):
        some = 0
        for book in small_books(33, 120, 6, 40) + [part(great_book(1), tuple(range(0, 36, 6)))]:
            works = range(len(book.windows))
            right = [order for order in permutations(works) if not plain_throws(book.windows, order)]
            self.assertEqual(all_orders(book), right)
            self.assertEqual(many_orders(book), len(right))
            self.assertEqual(one_order(book), right[0] if right else None)
            for number in range(0, len(right), 7):
                self.assertEqual(order_at(book, number), right[number])
            some += len(right) > 1
        self.assertGreater(some, 10)

    def test_one_work(self):
        self.assertEqual(all_orders(Book(((3, 9),))), [(0,)])
        self.assertEqual(order_at(Book(((3, 9),)), 0), (0,))

    def test_no_window_within_another_one(self):
        rnd = random.Random(34)
        for _ in range(20):
            firsts = sorted(rnd.sample(range(1000), 40))
            lasts = sorted(rnd.sample(range(1000, 2000), 40))
            works = random_row(rnd, range(40))
            book = Book(tuple((firsts[work], lasts[work]) for work in works))
            order = tuple(sorted(range(40), key=lambda work: (sum(book.windows[work]), work)))
            self.assertIs(is_one_order(book, order), True)
            self.assertEqual(one_order(book), order)

    def test_windows_of_one_middle(self):
        self.assertEqual(all_orders(U), [(0, 1), (1, 0)])
        three = Book(((1, 9), (0, 10), (2, 8)))
        self.assertEqual(all_orders(three), [(0, 2, 1), (1, 2, 0)])
        alike = Book(((1, 9), (0, 10), (1, 9)))
        self.assertEqual(all_orders(alike), [(0, 2, 1), (1, 0, 2), (1, 2, 0), (2, 0, 1)])
        self.assertEqual(all_orders(Book(((1, 9), (0, 10), (2, 8), (3, 7)))), [])
        self.assertEqual(all_orders(Book(((0, 10), (0, 10), (0, 10), (3, 7)))), [])
        self.assertEqual(len(all_orders(Book(((4, 4),) * 6))), 720)

    def test_mirrored_orders(self):
        for book in small_books(35, 100, 5, 9):
            backward = sorted(order[::-1] for order in all_orders(mirrored(book)))
            self.assertEqual(backward, all_orders(book))
            self.assertEqual(all_orders(shifted(book, 3)), all_orders(book))

    def test_other_things_are_no_one_orders(self):
        for thing in STRANGE + [(0, 1), [0, 1, 2], (0, 1, 2, 0), (0, True, 2), (False, 1, 2), ()]:
            self.assertIs(is_one_order(V, thing), False)
        self.assertIs(is_one_order(V, (0, 1, 2)), True)


class Numbers(unittest.TestCase):
    def test_eight_and_nine_of_one_middle(self):
        eight = Book(((3, 9),) * 8 + ((0, 1),))
        self.assertEqual(many_orders(eight), factorial(8))
        self.assertEqual(one_order(eight), (8, 0, 1, 2, 3, 4, 5, 6, 7))
        self.assertEqual(order_at(eight, 1), (8, 0, 1, 2, 3, 4, 5, 7, 6))
        self.assertEqual(order_at(eight, factorial(8) - 1), (8, 7, 6, 5, 4, 3, 2, 1, 0))
        nine = Book(((3, 9),) * 9 + ((0, 1),))
        for book in [nine, Book(((0, 2), (1, 1)) * 5), joined(W, nine)]:
            for call in [one_order, many_orders, all_orders, lambda given: order_at(given, 0),
                         lambda given: order_at(given, None), lambda given: order_at(given, -1)]:
                with self.assertRaises(TooMany) as caught:
                    call(book)
                self.assertEqual(caught.exception.most, 8)
        self.assertIs(is_one_order(nine, (9, 0, 1, 2, 3, 4, 5, 6, 7, 8)), True)
        self.assertIs(is_one_order(nine, (0, 1, 2, 3, 4, 5, 6, 7, 8, 9)), False)

    def test_nine_of_one_middle_are_too_many_without_a_one_order_too(self):
        for call in [one_order, many_orders, all_orders]:
            with self.assertRaises(TooMany):
                call(Book(tuple((at, 20 - at) for at in range(9))))
        self.assertIsNone(one_order(Book(tuple((at, 20 - at) for at in range(8)))))

    def test_a_thousand_and_more(self):
        self.assertEqual(len(all_orders(Book(((0, 3),) * 6))), 720)
        below = Book(((0, 3),) * 3 + ((10, 13),) * 3 + ((20, 23),) * 4)
        self.assertEqual(many_orders(below), 864)
        self.assertEqual(len(all_orders(below)), 864)
        for above in [Book(((0, 3),) * 6 + ((10, 13),) * 2), apart(10, ((0, 3), (0, 3))), Book(((0, 3),) * 7)]:
            self.assertGreater(many_orders(above), 1000)
            with self.assertRaises(TooMany) as caught:
                all_orders(above)
            self.assertEqual(caught.exception.most, 1000)
        self.assertEqual(many_orders(apart(10, ((0, 3), (0, 3)))), 1024)
        barred = joined(W, Book(tuple((20 * at, 20 * at + 5) for at in range(1, 5) for _ in range(8))))
        self.assertEqual(all_orders(barred), [])

    def test_numbers_of_great_books(self):
        book = apart(13, ((0, 9), (3, 6), (3, 6)))
        self.assertEqual(many_orders(book), 4 ** 13)
        rnd = random.Random(36)
        numbers = sorted(rnd.randrange(4 ** 13) for _ in range(30))
        orders = [order_at(book, number) for number in numbers]
        self.assertEqual(orders, sorted(orders))
        for number, order in zip(numbers, orders):
            self.assertIs(is_one_order(book, order), True)
            digits = [all_orders(Book(((0, 9), (3, 6), (3, 6)))).index(tuple(work % 3 for work in order[at:at + 3]))
                      for at in range(0, 39, 3)]
            self.assertEqual(sum(digit * 4 ** (12 - at) for at, digit in enumerate(digits)), number)

    def test_numbers_that_are_none(self):
        for number in [1, -1, 10 ** 39, True, False, None, "0", (0,), [0]] + STRANGE:
            with self.assertRaises(NoNumber):
                order_at(V, number)
        for number in [0, 1, -1, None]:
            with self.assertRaises(NoNumber):
                order_at(W, number)
        with self.assertRaises(NoNumber):
            order_at(U, 2)
        self.assertEqual(order_at(U, 1), (1, 0))

    def test_forty_works_with_few_one_orders(self):
        few = apart(13, ((0, 9), (2, 8), (4, 11)))
        self.assertEqual(all_orders(few), [tuple(range(39))])
        self.assertEqual(order_at(few, 0), tuple(range(39)))
        two = Book(tuple((at, at + 9) for at in range(38)) + ((50, 60), (51, 59)))
        self.assertEqual(many_orders(two), 2)
        self.assertEqual(all_orders(two), [tuple(range(40)), tuple(range(38)) + (39, 38)])
        self.assertEqual(all_orders(Book(W.windows * 2 + tuple((at, at + 1) for at in range(34)))), [])

    def test_books_of_any_size(self):
        book = great_book(10)
        self.assertEqual(one_order(book), tuple(range(400)))
        self.assertEqual(order_at(book, 0), tuple(range(400)))
        self.assertEqual(throws(book, tuple(range(400))), [])
