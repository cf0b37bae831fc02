"""3.1 to 3.3: rows that serve a lot, least ends and rooms of any row."""

import random
import unittest
from itertools import combinations, permutations

from bymiddles.books import Book
from bymiddles.errors import NoLot, NoWork, TooMany
from bymiddles.serving import ends, is_ends, least_late, many_rows, room_any, row_for
from tests.plain import (STRANGE, U, W, great_book, group_there, plain_late, plain_serves, random_lot, small_books)


def samples(seed, many):
    """Books with a lot."""
    rnd = random.Random(seed)
    for book in small_books(seed, many, 4, 9):
        yield book, random_lot(rnd, book.windows, rnd.choice([2, 5, 12]))


def serving_rows(book, lot):
    """All rows of just those there that serve the lot."""
    return [row for row in permutations(group_there(lot)) if plain_serves(book.windows, row, lot)]


def plain_ends(book, lot):
    """The least ends, by a look at all rows of each group."""
    table = {}
    for size in range(len(lot) + 1):
        for group in combinations(group_there(lot), size):
            alone = tuple(item if work in group else None for work, item in enumerate(lot))
            hours = []
            for row in serving_rows(book, alone):
                hour = 0
                for work in row:
                    hour = max(hour, book.windows[work][0]) + lot[work]
                hours.append(hour)
            table[group] = min(hours, default=None)
    return table


FORTY = great_book(1)


def so_many_there(many):
    """A lot of a book of forty works in which so many are there, each for one hour."""
    return (1,) * many + (None,) * (40 - many)


class Rows(unittest.TestCase):
    def test_against_all_rows(self):
        served = 0
        for book, lot in samples(11, 500):
            rows = serving_rows(book, lot)
            self.assertEqual(many_rows(book, lot), len(rows))
            if rows:
                self.assertIn(row_for(book, lot), rows)
                served += 1
            else:
                self.assertIsNone(row_for(book, lot))
            lates = [plain_late(book.windows, row, lot) for row in permutations(group_there(lot))]
            self.assertEqual(least_late(book, lot), min(lates) if group_there(lot) else None)
        self.assertTrue(100 < served < 400)

    def test_nobody_there(self):
        nobody = (None, None, None)
        self.assertEqual(row_for(W, nobody), ())
        self.assertIsNone(least_late(W, nobody))
        self.assertEqual(many_rows(W, nobody), 1)
        self.assertEqual(ends(W, nobody), {(): 0})

    def test_lots_that_no_row_serves(self):
        for lot in [(11, None, None), (10, 1, None), (7, 3, 3), (10 ** 39, 0, 0)]:
            self.assertIsNone(row_for(W, lot))
            self.assertEqual(many_rows(W, lot), 0)
            self.assertIsNone(ends(W, lot)[group_there(lot)])
            self.assertGreater(least_late(W, lot), 0)
        self.assertEqual(least_late(W, (10 ** 39, 0, 0)), 10 ** 39 - 7)

    def test_least_late_against_late_ends(self):
        # The row that ends first is the later one here, so that both have to be kept in mind.
        book = Book(((0, 3), (2, 9), (0, 20)))
        self.assertEqual(least_late(book, (3, 2, 1)), 0)
        self.assertEqual(least_late(book, (3, 2, 18)), 3)
        self.assertEqual(least_late(Book(((3, 100),)), (0,)), -97)

    def test_just_ten_there(self):
        lot = so_many_there(10)
        self.assertEqual(row_for(FORTY, lot) is None, False)
        self.assertEqual(least_late(FORTY, lot), -4)
        self.assertEqual(len(ends(FORTY, lot)), 1024)
        self.assertIs(is_ends(FORTY, lot, ends(FORTY, lot)), True)
        self.assertEqual(room_any(FORTY, lot, 0), 4 + 1)
        self.assertEqual(many_rows(Book(((0, 10),) * 40), lot), 3628800)
        self.assertEqual(many_rows(Book(((0, 9),) * 40), lot), 0)

    def test_eleven_there(self):
        lot = so_many_there(11)
        for call in [row_for, least_late, many_rows, ends, lambda book, given: is_ends(book, given, None),
                     lambda book, given: room_any(book, given, 0)]:
            with self.assertRaises(TooMany) as caught:
                call(FORTY, lot)
            self.assertEqual(caught.exception.most, 10)

    def test_few_there_in_a_great_book(self):
        book = great_book(3)
        lot = (None,) * 118 + (2, 3)
        self.assertEqual(row_for(book, lot), (118, 119))
        self.assertEqual(many_rows(book, lot), 1)
        self.assertEqual(least_late(book, lot), -1)


class Ends(unittest.TestCase):
    def test_against_all_rows(self):
        for book, lot in samples(12, 400):
            table = ends(book, lot)
            self.assertEqual(table, plain_ends(book, lot))
            self.assertIs(is_ends(book, lot, table), True)

    def test_wrong_dicts(self):
        right = {(): 0, (0,): 3, (1,): 6, (0, 1): 6}
        self.assertIs(is_ends(U, (3, 2), right), True)
        self.assertIs(is_ends(U, (3, 2), dict(reversed(list(right.items())))), True)
        for group in right:
            for wrong in [None, right[group] + 1, -1, str(right[group]), [right[group]], (right[group],), W, {}]:
                self.assertIs(is_ends(U, (3, 2), {**right, group: wrong}), False)
            self.assertIs(is_ends(U, (3, 2), {key: right[key] for key in right if key != group}), False)
            self.assertIs(is_ends(U, (3, 2), {("x" if key == group else key): right[key] for key in right}), False)
        for more in [(1, 0), 0, "", (0, 0), (2,)]:
            self.assertIs(is_ends(U, (3, 2), {**right, more: None}), False)

    def test_flags_are_no_hours(self):
        right = {(): 0, (0,): 1}
        self.assertIs(is_ends(U, (1, None), right), True)
        self.assertIs(is_ends(U, (1, None), {(): False, (0,): 1}), False)
        self.assertIs(is_ends(U, (1, None), {(): 0, (0,): True}), False)

    def test_groups_without_an_hour(self):
        right = {(): 0, (0,): None, (1,): 6, (0, 1): None}
        self.assertEqual(ends(U, (11, 2)), right)
        self.assertIs(is_ends(U, (11, 2), right), True)
        for wrong in [0, False, 11, (), "None"]:
            self.assertIs(is_ends(U, (11, 2), {**right, (0,): wrong}), False)

    def test_other_things(self):
        for thing in STRANGE:
            self.assertIs(is_ends(U, (3, 2), thing), False)
            self.assertIs(is_ends(U, (None, None), thing), False)
        self.assertIs(is_ends(U, (None, None), {(): 0}), True)
        self.assertIs(is_ends(U, (3, 2), list(ends(U, (3, 2)).items())), False)


class RoomAny(unittest.TestCase):
    def test_room_any(self):
        self.assertEqual(room_any(U, (3, 2), 0), 4)
        self.assertEqual(room_any(U, (4, 0), 1), 2)
        self.assertEqual(room_any(U, (10, 0), 1), None)
        self.assertEqual(room_any(U, (6, 10 ** 39), 1), 0)

    def test_against_all_rows(self):
        found = 0
        for book, lot in samples(13, 300):
            for work in group_there(lot):
                lots = [lot[:work] + (length,) + lot[work + 1:] for length in range(12)]
                fitting = [other[work] for other in lots if serving_rows(book, other)]
                self.assertEqual(room_any(book, lot, work), max(fitting, default=None))
                found += len(fitting)
        self.assertGreater(found, 300)

    def test_no_work(self):
        for work in [1, 3] + STRANGE:
            with self.assertRaises(NoWork):
                room_any(W, (1, None, 1), work)

    def test_errors_in_their_order(self):
        with self.assertRaises(NoLot):
            room_any(W, (1, 1), 9)
        with self.assertRaises(NoWork):
            room_any(FORTY, so_many_there(11), 11)
        with self.assertRaises(TooMany):
            room_any(FORTY, so_many_there(11), 10)


class Wrong(unittest.TestCase):
    def test_no_lot(self):
        for call in [row_for, least_late, many_rows, ends, lambda book, lot: is_ends(book, lot, {}),
                     lambda book, lot: room_any(book, lot, 0)]:
            for lot in STRANGE + [(1, 1), (1,) * 4, [1, 1, 1], (1, True, 1), (1, -1, 1), (1, 1, "1")]:
                with self.assertRaises(NoLot):
                    call(W, lot)
            with self.assertRaises(NoLot):
                call(FORTY, (1,) * 41)
