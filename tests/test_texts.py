"""15.1: texts of books and lots, written and read."""

import random
import unittest

from bymiddles.books import Book, joined, shifted
from bymiddles.errors import BadBook, BadText, NoLot
from bymiddles.reading import read_book, read_lot
from bymiddles.texts import book_text, lot_text
from tests.plain import (MILLION, STRANGE, U, W, deep, great_book, random_lot, random_windows, raised, small_books)

FORTY = "1" + "0" * 39
NO_STRINGS = [thing for thing in STRANGE if not isinstance(thing, str)]
NO_LOTS = [[5, 0, 4], (5, 0), (5, 0, 4, 1), (5, 0, True), (5, 0, -1), (5, "0", 4), (5, (0,), 4), (), "away"]

# Words that are no numbers.
NO_NUMBERS = ["", "-1", "+1", "-0", "+0", "00", "01", "007", "1.", "1.0", ".5", "1e3", "1_0", "0x1", "x", "one", "1,", ",",
              "-", "1" * 41, "9" * 50, "1\t", "\t1", "1-", "None", "True", "(1)", "[1]", "'1'", "0 ", "1|"]


class Writing(unittest.TestCase):
    def test_books(self):
        self.assertEqual(book_text(U), "work 0 10\nwork 4 6\n")
        self.assertEqual(book_text(W), "work 0 10\nwork 2 5\nwork 4 9\n")
        self.assertEqual(book_text(Book(((MILLION, MILLION),))), "work 1000000 1000000\n")

    def test_lots(self):
        self.assertEqual(lot_text(W, (5, None, 0)), "length 5\naway\nlength 0\n")
        self.assertEqual(lot_text(U, (None, None)), "away\naway\n")
        self.assertEqual(lot_text(U, (10 ** 39, 10)), "length " + FORTY + "\nlength 10\n")

    def test_no_lot(self):
        for lot in NO_LOTS + STRANGE + [deep(kind) for kind in (tuple, list, dict)]:
            raised(self, NoLot, lot_text, W, lot)
        raised(self, NoLot, lot_text, U, (0, 0, 0))


class Back(unittest.TestCase):
    def test_books(self):
        rnd = random.Random(231)
        books = small_books(231, 150, 8, 40) + [great_book(1), Book(((0, MILLION),) * 40), Book(((0, 0),))]
        for book in books + [Book(random_windows(rnd, 40, MILLION)) for _ in range(20)]:
            self.assertEqual(book_text(book).count("\n"), len(book.windows))
            other = read_book(book_text(book))
            self.assertIs(type(other), Book)
            self.assertEqual(other.windows, book.windows)
            self.assertTrue(other == book)

    def test_lots(self):
        rnd = random.Random(232)
        for book in small_books(232, 150, 8, 40) + [great_book(1), great_book(2), shifted(U, 10 ** 39)]:
            for lot in [random_lot(rnd, book.windows, 10 ** 12), (None,) * len(book.windows)]:
                self.assertEqual(read_lot(book, lot_text(book, lot)), lot)
        self.assertEqual(read_lot(U, "length " + FORTY + "\nlength " + "9" * 40 + "\n"), (10 ** 39, 10 ** 40 - 1))

    def test_books_that_callers_may_not_construct(self):
        for book in [great_book(2), joined(great_book(1), U), shifted(U, MILLION - 9), shifted(W, 10 ** 38)]:
            raised(self, BadBook, read_book, book_text(book))
        self.assertEqual(read_book(book_text(shifted(U, MILLION - 10))), shifted(U, MILLION - 10))
        self.assertEqual(raised(self, BadText, read_book, book_text(shifted(shifted(W, 10 ** 40 - 1), 1))).line, 1)


class Wrong(unittest.TestCase):
    def bad_book(self, text, line):
        """Looks whether this line is told."""
        self.assertEqual(raised(self, BadText, read_book, text).line, line, text)

    def bad_lot(self, text, line):
        """Looks whether this line is told, whatever the size of the book."""
        for book in [W, U, Book(((0, 0),)), great_book(2)]:
            self.assertEqual(raised(self, BadText, read_lot, book, text).line, line, text)

    def test_no_string(self):
        for thing in NO_STRINGS + [deep(kind) for kind in (tuple, list, dict)]:
            self.bad_book(thing, 0)
            self.bad_lot(thing, 0)
        self.bad_book(b"work 0 1\n", 0)
        self.bad_book(["work 0 1\n"], 0)

    def test_lines_of_books(self):
        lines = ["", " ", "work", "work 1", "work 1 ", "work  1", "work 1 2 3", "work 1 2 ", " work 1 2", "work  1 2",
                 "work 1  2", "Work 1 2", "WORK 1 2", "wor 1 2", "works 1 2", "work\t1 2", "work 1\t2", "work 1 2\t", "1 2",
                 "1 2 work", "work 1,2", "work,1,2", "work 1 2|", "length 1", "away", "away 1 2", "length 1 2", "book 1 2"]
        lines += ["work " + word + " 5" for word in NO_NUMBERS] + ["work 5 " + word for word in NO_NUMBERS]
        for line in lines:
            self.bad_book(line + "\n", 1)
            self.bad_book("work 0 1\n" + line + "\nwork 0 1\n", 2)
            self.bad_book("work 0 1\nwork 3 2\n" + line + "\n", 3)
            self.bad_book(line, 1)

    def test_lines_of_lots(self):
        lines = ["", " ", "Away", "AWAY", "awa", "aways", " away", "away ", "away away", "away 1", "length", "length ",
                 "length  1", "length 1 ", " length 1", "length 1 2", "Length 1", "lengths 1", "length\t1", "length 1\t", "1",
                 "None", "-", "length away", "work 1 2", "work 1", "length -", "length None"]
        for line in lines + ["length " + word for word in NO_NUMBERS]:
            self.bad_lot(line + "\n", 1)
            self.bad_lot("away\n" + line + "\naway\n", 2)
            self.bad_lot("away\nlength 0\n" + line + "\n", 3)
            self.bad_lot(line, 1)

    def test_the_first_of_several(self):
        self.bad_book("work 0 1\nwork 01 2\nwork 1\n\n", 2)
        self.bad_book("\nwork 0 1\nx\n", 1)
        self.bad_book("work 0 1\nwork 0 1\n\nwork 0 01", 3)
        self.bad_lot("away\nlength 0\naway \nlength\n", 3)
        self.bad_lot("length 00\nlength 0\naway", 1)

    def test_texts_that_do_not_end_in_a_line_feed(self):
        self.bad_book("work 0 1", 1)
        self.bad_book("work 0 1\nwork 0 1", 2)
        self.bad_book("work 0 1\nwork 0 1\nwork 5 1", 3)
        self.bad_book("work 0 1\n ", 2)
        self.bad_book("work 0 1\n\n", 2)
        self.bad_book("work 0 1\n\t", 2)
        self.bad_lot("away", 1)
        self.bad_lot("away\nlength 5", 2)
        self.bad_lot("away\n ", 2)
        self.bad_lot("away\n\n", 2)

    def test_no_line_at_all(self):
        self.bad_book("", 1)
        self.bad_lot("", 1)
        self.bad_book("\n", 1)
        self.bad_lot("\n", 1)
        self.bad_book("\n\n", 1)

    def test_books_that_are_none(self):
        for text in ["work 3 2\n", "work 0 1\nwork 1 0\n", "work 0 1000001\n", "work 1000001 1000001\n", "work 0 0\n" * 41,
                     "work 0 " + "9" * 40 + "\n", "work " + "9" * 40 + " 0\n"]:
            raised(self, BadBook, read_book, text)
        self.assertEqual(read_book("work 0 0\n" * 40), Book(((0, 0),) * 40))
        self.assertEqual(read_book("work 0 1000000\n"), Book(((0, MILLION),)))
        self.bad_book("work 3 2\nwork 0 1", 2)
        self.bad_book("work 0 0\n" * 41 + "work 0\n", 42)
        self.bad_book("work 0 0\n" * 41 + "x", 42)

    def test_lots_of_another_size(self):
        for text in ["away\n", "away\n" * 2, "length 1\n" * 4, "away\n" * 80]:
            raised(self, NoLot, read_lot, W, text)
        self.assertEqual(read_lot(W, "away\n" * 3), (None,) * 3)
        self.assertEqual(read_lot(great_book(2), "away\n" * 80), (None,) * 80)
        raised(self, NoLot, read_lot, great_book(2), "away\n" * 79)
        self.bad_lot("away\n" * 100 + "away", 101)
