"""2.1 to 2.3: runs, stretches and room."""

import random
import unittest

from bymiddles.books import Book
from bymiddles.errors import NoLot, NoRow, NoWork
from bymiddles.runs import broken, is_broken, lateness, room, run, serves
from tests.plain import (STRANGE, U, W, great_book, group_there, plain_late, plain_serves, random_lot, random_row,
                         random_windows, small_books)


def samples(seed, many):
    """Books with a row and a lot that may run on them; the row may have works that fall away."""
    rnd = random.Random(seed)
    for book in small_books(seed, many, 5, 9):
        lot = random_lot(rnd, book.windows, 9)
        works = set(group_there(lot)) | {work for work in range(len(lot)) if rnd.random() < 0.5}
        yield book, random_row(rnd, works), lot


class Runs(unittest.TestCase):
    def test_run(self):
        self.assertEqual(run(W, (0, 1, 2), (5, 0, 4)), ((0, 0, 5), (1, 5, 5), (2, 5, 9)))
        self.assertEqual(run(W, (2, 1, 0), (1, 1, 1)), ((2, 4, 5), (1, 5, 6), (0, 6, 7)))
        self.assertEqual(run(W, (1,), (None, 0, None)), ((1, 2, 2),))

    def test_works_that_fall_away(self):
        self.assertEqual(run(W, (2, 1, 0), (None, 1, None)), ((1, 2, 3),))
        self.assertEqual(run(W, (0, 1, 2), (3, None, 1)), ((0, 0, 3), (2, 4, 5)))
        self.assertEqual(run(W, (0, 2), (3, None, 1)), ((0, 0, 3), (2, 4, 5)))

    def test_nobody_there(self):
        nobody = (None, None, None)
        for row in [(), (1,), (2, 0, 1)]:
            self.assertEqual(run(W, row, nobody), ())
            self.assertIs(serves(W, row, nobody), True)
            self.assertIsNone(lateness(W, row, nobody))
            self.assertEqual(broken(W, row, nobody), [])
            self.assertIs(is_broken(W, row, nobody, (0, 0)), False)

    def test_great_lengths(self):
        long = 10 ** 39 + 7
        self.assertEqual(run(W, (1, 0, 2), (long, long, 0)),
                         ((1, 2, long + 2), (0, long + 2, 2 * long + 2), (2, 2 * long + 2, 2 * long + 2)))
        self.assertEqual(lateness(W, (1, 0, 2), (long, long, 0)), 2 * long - 7)
        self.assertEqual(broken(W, (1, 0, 2), (long, long, 0)), [(0, 0), (0, 2), (1, 0), (1, 1), (1, 2)])

    def test_lengths_of_nothing(self):
        book = Book(((5, 5), (3, 4), (0, 9)))
        self.assertIs(serves(book, (1, 0), (0, 0, None)), True)
        self.assertIs(serves(book, (0, 1), (0, 0, None)), False)
        self.assertEqual(lateness(book, (0, 1), (0, 0, None)), 1)
        self.assertEqual(broken(book, (0, 1), (0, 0, None)), [(0, 1)])

    def test_serves_at_the_edge(self):
        self.assertIs(serves(U, (0, 1), (6, 0)), True)
        self.assertIs(serves(U, (0, 1), (7, 0)), False)
        self.assertEqual(lateness(U, (0, 1), (6, 0)), 0)
        self.assertEqual(lateness(U, (0, 1), (7, 0)), 1)
        self.assertEqual(lateness(U, (1, 0), (1, 1)), -1)
        self.assertEqual(lateness(U, (0,), (1, None)), -9)

    def test_by_a_plain_look(self):
        for book, row, lot in samples(3, 400):
            self.assertIs(serves(book, row, lot), plain_serves(book.windows, row, lot))
            self.assertEqual(lateness(book, row, lot), plain_late(book.windows, row, lot))
            hour = 0
            for work, begin, end in run(book, row, lot):
                self.assertEqual(begin, max(hour, book.windows[work][0]))
                self.assertEqual(end, begin + lot[work])
                hour = end
            self.assertEqual([step[0] for step in run(book, row, lot)], [x for x in row if lot[x] is not None])

    def test_books_of_any_size(self):
        book = great_book(30)
        row = tuple(range(1200))
        self.assertIs(serves(book, row, (1,) * 1200), True)
        self.assertEqual(lateness(book, row, (1,) * 1200), -4)
        self.assertEqual(run(book, row, (1,) * 1200)[-1], (1199, 1199, 1200))
        self.assertEqual(room(book, row, (1,) * 1200, 600), 5)


class Stretches(unittest.TestCase):
    def test_broken(self):
        self.assertEqual(broken(W, (1, 0, 2), (5, 0, 4)), [(1, 2)])
        self.assertEqual(broken(W, (0, 1, 2), (5, 0, 4)), [])
        self.assertEqual(broken(W, (2, 0, 1), (11, 4, 6)), [(0, 0), (0, 1), (1, 1), (2, 0), (2, 1), (2, 2)])
        self.assertEqual(broken(W, (2, 0, 1), (11, None, 6)), [(0, 0), (2, 0), (2, 2)])

    def test_by_its_words(self):
        for book, row, lot in samples(4, 400):
            works = [work for work in row if lot[work] is not None]
            found = []
            for at, one in enumerate(works):
                for to in range(at, len(works)):
                    load = sum(lot[work] for work in works[at:to + 1])
                    if book.windows[one][0] + load > book.windows[works[to]][1]:
                        found.append((one, works[to]))
            self.assertEqual(broken(book, row, lot), sorted(found))
            for one in range(len(book.windows)):
                for other in range(len(book.windows)):
                    self.assertIs(is_broken(book, row, lot, (one, other)), (one, other) in found)

    def test_the_first_fact(self):
        for book, row, lot in samples(5, 300):
            self.assertIs(serves(book, row, lot), broken(book, row, lot) == [])

    def test_is_broken_with_other_things(self):
        for thing in STRANGE + [(1, 2, 2), [1, 2], (True, 2), (1, 3), (2, 1), (1,), (1, (2,)), ("1", "2"), (1, None)]:
            self.assertIs(is_broken(W, (1, 0, 2), (5, 0, 4), thing), False)
        self.assertIs(is_broken(W, (1, 0, 2), (5, 0, 4), (1, 2)), True)
        book = Book(((0, 0), (0, 0)))
        self.assertIs(is_broken(book, (0, 1), (1, 1), (0, 1)), True)
        for thing in [(False, True), (0, True), (False, 1), (False, False), (1, 0)]:
            self.assertIs(is_broken(book, (0, 1), (1, 1), thing), False)


class Room(unittest.TestCase):
    def test_room(self):
        self.assertEqual(room(U, (0, 1), (3, 2), 0), 4)
        self.assertEqual(room(U, (0, 1), (3, 2), 1), 2)
        self.assertEqual(room(U, (1, 0), (3, 2), 0), 4)
        self.assertEqual(room(U, (0,), (99, None), 0), 10)
        self.assertIsNone(room(U, (0, 1), (7, 2), 1))
        self.assertIsNone(room(U, (0, 1), (7, 3), 0))
        self.assertEqual(room(U, (0, 1), (6, 2), 1), 0)

    def test_just_so_long_and_no_longer(self):
        served = 0
        for book, row, lot in samples(6, 400):
            for work in group_there(lot):
                most = room(book, row, lot, work)
                longer = 0 if most is None else most + 1
                self.assertFalse(plain_serves(book.windows, row, lot[:work] + (longer,) + lot[work + 1:]))
                if most is not None:
                    self.assertTrue(plain_serves(book.windows, row, lot[:work] + (most,) + lot[work + 1:]))
                    served += 1
        self.assertGreater(served, 100)

    def test_no_work_that_is_there(self):
        for work in [1, 3] + STRANGE:
            with self.assertRaises(NoWork):
                room(W, (0, 1, 2), (5, None, 4), work)
        with self.assertRaises(NoWork):
            room(W, (0, 1, 2), (5, 0, 4), True)


class Wrong(unittest.TestCase):
    def functions(self):
        """Each function of a row and a lot, of these two alone."""
        return [run, serves, lateness, broken, lambda book, row, lot: is_broken(book, row, lot, (0, 1)),
                lambda book, row, lot: room(book, row, lot, 0)]

    def test_no_row(self):
        for function in self.functions():
            for row in STRANGE + [[0, 1, 2], (0, 0), (0, 1, 3), (0, True), (0, 1, 2, 0)]:
                with self.assertRaises(NoRow):
                    function(W, row, (1, 1, 1))
                with self.assertRaises(NoRow):
                    function(W, row, None)

    def test_no_lot(self):
        for function in self.functions():
            for lot in STRANGE + [(1, 1), (1, 1, 1, 1), [1, 1, 1], (1, True, 1), (1, -1, 1), (1, 1, "1")]:
                with self.assertRaises(NoLot):
                    function(W, (0, 1, 2), lot)

    def test_works_that_the_row_has_not(self):
        for function in self.functions():
            for row in [(), (0,), (0, 1), (1, 0)]:
                with self.assertRaises(NoLot):
                    function(W, row, (1, 1, 0))

    def test_errors_in_their_order(self):
        with self.assertRaises(NoRow):
            room(W, (0, 0), (1, 1), 9)
        with self.assertRaises(NoLot):
            room(W, (0, 1), (1, 1, 1), 9)
        with self.assertRaises(NoWork):
            room(W, (0, 1), (1, 1, None), 2)
        with self.assertRaises(NoRow):
            is_broken(W, [0], (1,), None)
        with self.assertRaises(NoLot):
            is_broken(W, (0,), (1,), None)

    def test_rooms_of_random_rows_of_other_works(self):
        windows = random_windows(random.Random(7), 4, 9)
        with self.assertRaises(NoLot):
            serves(Book(windows), (0, 1, 2), (None, None, None, 0))
