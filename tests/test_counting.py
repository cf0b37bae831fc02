"""19.1 and 19.2: lots counted and numbered."""

import random
import unittest
from itertools import permutations

from bymiddles.books import Book, joined, part, shifted
from bymiddles.counting import lot_at, lot_number, many_lots, many_served, strongest
from bymiddles.errors import NoLot, NoNumber, NoRow, TooLate, TooMany
from bymiddles.orders import all_orders, many_orders
from tests.plain import (STRANGE, U, V, W, changed, deep, great_book, group_there, plain_serves, raised, random_row,
                         random_windows, served_by, small_books, small_lots)

NO_ROWS = [[0, 1], (0, 0), (0, 3), (0, True), (False,), (0, 1, 2, 0), ((0, 1),), "01", (-1,), (None,)]
NO_NUMBERS = [True, False, None, -1, 216, 217, 10 ** 39, -10 ** 39, "0", b"0", (0,), [0], ((),)]
LATE = [Book(((0, 1001),)), Book(((3, 5), (1001, 1001))), shifted(W, 992), shifted(great_book(1), 10 ** 39)]


def in_order(lots):
    """The lots ascending, None being less than each length."""
    return sorted(lots, key=lambda lot: [-1 if item is None else item for item in lot])


def plain_lots(book, row):
    """All lots with none there but works of the row, that the row serves, ascending."""
    return in_order([lot for lot in small_lots(book.windows)
                     if set(group_there(lot)) <= set(row) and plain_serves(book.windows, row, lot)])


def samples(seed, many, works=4, top=6):
    """Books with a row of some of their works."""
    rnd = random.Random(seed)
    for book in small_books(seed, many, works, top):
        row = random_row(rnd, range(len(book.windows)))
        yield book, row[:rnd.choice([0, 1, 2, 3, 4, 4, 4])]


class Numbers(unittest.TestCase):
    def test_against_all_lots(self):
        sizes = {}
        for book, row in samples(201, 200):
            lots = plain_lots(book, row)
            self.assertEqual(many_lots(book, row), len(lots), (book.windows, row))
            step = len(lots) // 60 + 1
            for number, lot in list(enumerate(lots))[::step] + [(len(lots) - 1, lots[-1])]:
                self.assertEqual(lot_at(book, row, number), lot, (book.windows, row, number))
                self.assertEqual(lot_number(book, row, lot), number)
            raised(self, NoNumber, lot_at, book, row, len(lots))
            sizes[len(row)] = True
        self.assertEqual(sorted(sizes), [0, 1, 2, 3, 4])

    def test_lots_that_are_none_of_them(self):
        rnd = random.Random(202)
        for book, row in samples(202, 150, 3, 5):
            lots = plain_lots(book, row)
            every = small_lots(book.windows)
            for lot in rnd.sample(every, min(30, len(every))):
                if lot in lots:
                    self.assertEqual(lot_number(book, row, lot), lots.index(lot))
                else:
                    raised(self, NoLot, lot_number, book, row, lot)

    def test_the_empty_row(self):
        for book in [W, U, Book(((0, 0),)), great_book(2), Book(((0, 1000),) * 40)]:
            nobody = (None,) * len(book.windows)
            self.assertEqual(many_lots(book, ()), 1)
            self.assertEqual(lot_at(book, (), 0), nobody)
            self.assertEqual(lot_number(book, (), nobody), 0)
            for number in [1, -1]:
                raised(self, NoNumber, lot_at, book, (), number)
            raised(self, NoLot, lot_number, book, (), changed(nobody, 0, 0))

    def test_lots_are_numbered_by_works_not_by_the_row(self):
        book = Book(((0, 1), (0, 1)))
        for row in [(0, 1), (1, 0)]:
            self.assertEqual([lot_at(book, row, number) for number in range(many_lots(book, row))],
                             [(None, None), (None, 0), (None, 1), (0, None), (0, 0), (0, 1), (1, None), (1, 0)])
        self.assertEqual([lot_at(book, (1,), number) for number in range(3)], [(None, None), (None, 0), (None, 1)])
        self.assertEqual(lot_number(book, (1, 0), (1, 0)), 7)

    def test_example(self):
        self.assertEqual(many_lots(W, (1, 0, 2)), 216)
        lots = plain_lots(W, (1, 0, 2))
        self.assertEqual([lot_at(W, (1, 0, 2), number) for number in range(216)], lots)
        self.assertEqual([lot_number(W, (1, 0, 2), lot) for lot in lots], list(range(216)))

    def test_one_work(self):
        book = Book(((3, 7),))
        self.assertEqual(many_lots(book, (0,)), 6)
        self.assertEqual([lot_at(book, (0,), number) for number in range(6)],
                         [(None,), (0,), (1,), (2,), (3,), (4,)])
        for number in range(6):
            self.assertEqual(lot_number(book, (0,), lot_at(book, (0,), number)), number)
        raised(self, NoNumber, lot_at, book, (0,), 6)
        raised(self, NoLot, lot_number, book, (0,), (5,))

    def test_rows_of_forty_works(self):
        rnd = random.Random(203)
        books = [great_book(1), Book(((0, 1000),) * 40), Book(random_windows(rnd, 40, 1000)), great_book(2),
                 Book(tuple((25 * at, 25 * at + 24) for at in range(40)))]
        for book in books:
            row = random_row(rnd, range(len(book.windows)))
            for one in [row, tuple(range(len(row))), row[:15]]:
                many = many_lots(book, one)
                for number in [0, many - 1, rnd.randrange(many)]:
                    lot = lot_at(book, one, number)
                    self.assertTrue(set(group_there(lot)) <= set(one))
                    self.assertTrue(plain_serves(book.windows, one, lot))
                    self.assertEqual(lot_number(book, one, lot), number)
                raised(self, NoNumber, lot_at, book, one, many)
        # Works that do not touch one another: 25 lengths or none for each.
        row = tuple(range(40))
        self.assertEqual(many_lots(books[-1], row), 26 ** 40)
        self.assertEqual(lot_at(books[-1], row, 26 ** 40 - 1), (24,) * 40)
        self.assertEqual(lot_at(books[-1], row, 0), (None,) * 40)
        digits = [rnd.randrange(26) for _ in row]
        number = 0
        for digit in digits:
            number = 26 * number + digit
        self.assertEqual(lot_at(books[-1], row, number), tuple(None if digit == 0 else digit - 1 for digit in digits))

    def test_neighbours_ascend(self):
        rnd = random.Random(204)
        for book in [Book(random_windows(rnd, 40, 1000)), Book(random_windows(rnd, 12, 40))]:
            row = random_row(rnd, range(len(book.windows)))
            start = rnd.randrange(many_lots(book, row) - 3)
            lots = [lot_at(book, row, number) for number in range(start, start + 3)]
            self.assertEqual(in_order(lots), lots)

    def test_hours_up_to_a_thousand(self):
        book = Book(((0, 1000), (1000, 1000)))
        # 1002 for the first one, and as many with the other one there, whatever it does: it has no hours.
        self.assertEqual(many_lots(book, (0, 1)), 1002 * 2)
        self.assertEqual(many_lots(book, (1, 0)), 1002 + 2)
        self.assertEqual(lot_at(book, (0, 1), 2003), (1000, 0))
        self.assertEqual(lot_number(book, (1, 0), (0, 0)), 3)


class Served(unittest.TestCase):
    def test_many_served_against_all_lots(self):
        for book in small_books(205, 200, 4, 6):
            if max(last for first, last in book.windows) <= 8:
                self.assertEqual(many_served(book), len(served_by(book.windows)), book.windows)
        self.assertEqual(many_served(Book(((0, 8), (1, 7), (2, 6), (3, 5)))),
                         len(served_by(((0, 8), (1, 7), (2, 6), (3, 5)))))
        self.assertEqual(many_served(Book(((0, 2), (3, 5), (6, 8)))), 4 ** 3)
        self.assertEqual(many_served(Book(((4, 4),))), 2)

    def test_strongest_against_all_orders(self):
        for book in small_books(206, 150, 4, 6):
            counted = [(-len(plain_lots(book, order)), order)
                       for order in permutations(range(len(book.windows)))]
            many, order = min(counted)
            self.assertEqual(strongest(book), (-many, order))

    def test_the_eleventh_fact(self):
        found = {}
        for book in small_books(207, 200, 4, 6):
            if max(last for first, last in book.windows) > 8:
                continue
            has_one = many_orders(book) > 0
            many, order = strongest(book)
            found[has_one] = True
            self.assertEqual(many == many_served(book), has_one)
            if has_one:
                every = list(permutations(range(len(book.windows))))
                self.assertEqual([one for one in every if many_lots(book, one) == many], all_orders(book))
                self.assertEqual(order, all_orders(book)[0])
            else:
                self.assertLess(many, many_served(book))
        self.assertEqual(len(found), 2)

    def test_strongest(self):
        self.assertEqual(strongest(W), (216, (1, 0, 2)))
        self.assertEqual(strongest(U), (many_lots(U, (0, 1)), (0, 1)))
        self.assertEqual(strongest(Book(((0, 1000),))), (1002, (0,)))
        self.assertEqual(strongest(Book(((7, 7),) * 6)), (64, (0, 1, 2, 3, 4, 5)))

    def test_six_works_up_to_hour_a_thousand(self):
        book = Book(((0, 1000), (100, 900), (50, 120), (300, 301), (990, 1000), (0, 5)))
        many, order = strongest(book)
        self.assertEqual(many, many_lots(book, order))
        rnd = random.Random(208)
        for _ in range(30):
            other = random_row(rnd, range(6))
            self.assertLessEqual((-many, order), (-many_lots(book, other), other))


class Wrong(unittest.TestCase):
    def test_no_row(self):
        for row in NO_ROWS + STRANGE:
            if row == ():
                continue
            for book in [W, LATE[2]]:
                raised(self, NoRow, many_lots, book, row)
                for number in [0, None]:
                    raised(self, NoRow, lot_at, book, row, number)
                for lot in [(None,) * 3, None]:
                    raised(self, NoRow, lot_number, book, row, lot)

    def test_hour_a_thousand_and_one(self):
        for book in LATE:
            for row in [(), (0,), tuple(range(len(book.windows)))]:
                self.assertEqual(raised(self, TooLate, many_lots, book, row).most, 1000)
                for number in [0, None, -1]:
                    self.assertEqual(raised(self, TooLate, lot_at, book, row, number).most, 1000)
                for lot in [(None,) * len(book.windows), None]:
                    self.assertEqual(raised(self, TooLate, lot_number, book, row, lot).most, 1000)
        for row in [(), (0, 2), (2, 1, 0)]:
            self.assertEqual(lot_at(shifted(W, 990), row, 0), (None,) * 3)

    def test_no_number(self):
        for number in NO_NUMBERS + STRANGE:
            raised(self, NoNumber, lot_at, W, (1, 0, 2), number)
        self.assertEqual(lot_at(W, (1, 0, 2), 215), plain_lots(W, (1, 0, 2))[-1])
        self.assertEqual(lot_at(W, (1, 0, 2), 0), (None,) * 3)

    def test_no_lot(self):
        right = (5, 0, 4)
        self.assertEqual(lot_number(W, (0, 1, 2), right), plain_lots(W, (0, 1, 2)).index(right))
        wrong = [list(right), right[:2], right + (0,), (5, 0, True), (5, False, 4), (5, 0, -1), (5, "0", 4), (5, (0,), 4),
                 (6, 0, 4), (5, 1, 4), (5, 0, 5), (10 ** 39, 0, 0), (0, 0, 10 ** 39), ()]
        for lot in wrong + STRANGE + [deep(kind) for kind in (tuple, list, dict)]:
            raised(self, NoLot, lot_number, W, (0, 1, 2), lot)
        # Works of the row alone may be there.
        raised(self, NoLot, lot_number, W, (0, 2), (5, 0, 4))
        raised(self, NoLot, lot_number, W, (), (None, 0, None))
        self.assertEqual(lot_number(W, (0, 2), (5, None, 4)), plain_lots(W, (0, 2)).index((5, None, 4)))

    def test_many_served(self):
        for book in [Book(((0, 8),) * 5), Book(((0, 9),) * 5), great_book(1), great_book(2), joined(W, U)]:
            self.assertEqual(raised(self, TooMany, many_served, book).most, 4)
        for book in [Book(((0, 9),)), V, shifted(U, 10 ** 39), Book(((0, 0),) * 3 + ((9, 9),))]:
            self.assertEqual(raised(self, TooLate, many_served, book).most, 8)
        self.assertEqual(many_served(Book(((8, 8),) * 4)), 16)

    def test_strongest(self):
        for book in [Book(((0, 8),) * 7), Book(((0, 1001),) * 7), great_book(1), great_book(2)]:
            self.assertEqual(raised(self, TooMany, strongest, book).most, 6)
        for book in [Book(((0, 1001),)), LATE[2], part(LATE[3], (0, 1, 2, 3, 4, 5))]:
            self.assertEqual(raised(self, TooLate, strongest, book).most, 1000)
