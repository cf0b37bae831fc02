"""11.1 to 11.4: how much later an order can end, how late it can be, and its notice."""

import random
import unittest
from itertools import permutations

from bymiddles.books import Book, joined, part, shifted
from bymiddles.errors import NoOrder, TooMany
from bymiddles.later import (is_regret_lot, is_worst_lot, least_notice, least_regret, notice, regret, regret_lot,
                             worst_late, worst_lot)
from bymiddles.orders import is_one_order
from bymiddles.runs import lateness
from tests.plain import (STRANGE, U, V, W, changed, deep, great_book, group_there, near_windows, plain_late,
                         plain_serves, raised, random_lot, random_row, random_windows, served_by, small_books)

ORDER = (1, 0, 2)
FIVE = part(great_book(1), (0, 1, 2, 3, 4))
SIX = part(great_book(1), (0, 1, 2, 3, 4, 5))
SEVEN = part(great_book(1), (0, 1, 2, 3, 4, 5, 6))
EIGHT = part(great_book(1), (0, 1, 2, 3, 4, 5, 6, 7))


def plain_regret(windows, order):
    """The seventh fact, word for word."""
    found = [0]
    for at, i in enumerate(order):
        for to in range(at + 1, len(order)):
            j = order[to]
            inner = order[at:to + 1]
            found.extend(windows[i][0] - windows[f][0] + windows[l][1] - windows[j][1]
                         for f in inner for l in inner if f != l)
    return max(found)


def least_plain_late(windows, lot):
    """The least lateness of all rows."""
    return min(plain_late(windows, row, lot) for row in permutations(group_there(lot)))


def plain_worst(windows, order):
    """The greatest lateness over all lots that some row serves, or 0."""
    return max([0] + [plain_late(windows, order, lot) for lot in served_by(windows) if group_there(lot)])


def plain_notice(windows, order):
    """The notice, by a look at all lots that are served with so much earlier last hours."""
    by = 0
    while True:
        nearer = [(first, last - by) for first, last in windows]
        lots = served_by(nearer)
        if all(plain_serves(windows, order, lot) for lot in lots):
            return by
        by += 1


def orders_of(book):
    """All orders, ascending."""
    return list(permutations(range(len(book.windows))))


def forty(rnd):
    """Books of 40 works of several kinds."""
    return [Book(near_windows(rnd, 40, 50)), Book(random_windows(rnd, 40, 1000)), Book(random_windows(rnd, 40, 10 ** 6)),
            great_book(1), Book(((3, 9),) * 40)]


class Regret(unittest.TestCase):
    def check(self, book, order):
        """Looks at the pair of an order by its words."""
        told = regret_lot(book, order)
        self.assertIsInstance(told, tuple)
        lot, row = told
        self.assertEqual(len(lot), len(book.windows))
        self.assertTrue(all(item is None or item >= 0 for item in lot))
        self.assertTrue(row)
        self.assertEqual(tuple(sorted(row)), group_there(lot))
        self.assertEqual(plain_late(book.windows, order, lot) - plain_late(book.windows, row, lot), regret(book, order))
        self.assertIs(is_regret_lot(book, order, told), True)
        return lot

    def test_against_the_seventh_fact(self):
        for book in small_books(111, 150, 6, 30):
            for order in orders_of(book)[::7]:
                self.assertEqual(regret(book, order), plain_regret(book.windows, order))
                self.check(book, order)

    def test_against_all_rows_for_drawn_lots(self):
        rnd = random.Random(112)
        found = {}
        for book in small_books(112, 250, 5, 12):
            order = random_row(rnd, range(len(book.windows)))
            most = regret(book, order)
            for _ in range(8):
                lot = random_lot(rnd, book.windows, rnd.choice([3, 40]))
                if group_there(lot):
                    least = least_plain_late(book.windows, lot)
                    later = plain_late(book.windows, order, lot) - least
                    self.assertLessEqual(later, most)
                    found[least <= 0, later == most > 0] = True
            lot = self.check(book, order)
            self.assertEqual(plain_late(book.windows, order, lot) - least_plain_late(book.windows, lot), most)
        self.assertEqual(len(found), 4)

    def test_books_of_forty_works(self):
        rnd = random.Random(113)
        for book in forty(rnd):
            for order in [tuple(range(40)), random_row(rnd, range(40)),
                          tuple(sorted(range(40), key=lambda work: sum(book.windows[work])))]:
                self.assertEqual(regret(book, order), plain_regret(book.windows, order))
                self.check(book, order)
        self.assertEqual(regret(great_book(1), tuple(range(40))), 0)
        self.assertEqual(regret(great_book(1), tuple(range(40))[::-1]), 78)
        self.assertEqual(regret(great_book(5), tuple(range(200))[::-1]), 398)
        self.check(great_book(5), tuple(range(200))[::-1])

    def test_hours_beyond_those_of_constructed_books(self):
        book = shifted(joined(W, shifted(W, 10 ** 38)), 10 ** 39)
        order = (3, 4, 5, 0, 1, 2)
        self.assertEqual(regret(book, order), plain_regret(book.windows, order))
        self.assertGreater(regret(book, order), 10 ** 38)
        self.check(book, order)

    def test_regret_of_nothing(self):
        for book, order in [(U, (0, 1)), (U, (1, 0)), (V, (0, 1, 2)), (Book(((3, 9),)), (0,)), (Book(((3, 3),)), (0,)),
                            (Book(((0, 9),) * 40), tuple(range(40))), (great_book(1), tuple(range(40)))]:
            self.assertEqual(regret(book, order), plain_regret(book.windows, order))
            self.check(book, order)
        self.assertEqual(regret(V, (0, 1, 2)), 0)
        self.assertEqual(regret(Book(((3, 9),)), (0,)), 0)

    def test_least_regret(self):
        self.assertEqual(least_regret(W), (2, (1, 0, 2)))
        self.assertEqual(least_regret(Book(((3, 4),))), (0, (0,)))
        for book in small_books(114, 120, 5, 12):
            self.assertEqual(least_regret(book), min((plain_regret(book.windows, order), order)
                                                     for order in orders_of(book)))

    def test_least_regret_of_seven_works(self):
        self.assertEqual(least_regret(SEVEN), (0, (0, 1, 2, 3, 4, 5, 6)))
        self.assertEqual(least_regret(Book(((4, 9),) * 7)), (0, (0, 1, 2, 3, 4, 5, 6)))
        book = Book(random_windows(random.Random(115), 7, 40))
        hours, order = least_regret(book)
        self.assertEqual(regret(book, order), hours)
        self.assertEqual(hours, min(plain_regret(book.windows, other) for other in orders_of(book)[::5] + [order]))


class RegretLots(unittest.TestCase):
    def test_all_small_pairs(self):
        rnd = random.Random(116)
        found = {}
        for book in small_books(116, 60, 4, 6):
            order = random_row(rnd, range(len(book.windows)))
            most = plain_regret(book.windows, order)
            for _ in range(10):
                lot = random_lot(rnd, book.windows, 20)
                for row in permutations(group_there(lot)):
                    wanted = bool(row) and plain_late(book.windows, order, lot) - plain_late(book.windows, row,
                                                                                             lot) == most
                    self.assertIs(is_regret_lot(book, order, (lot, row)), wanted)
                    found[wanted] = True
        self.assertEqual(len(found), 2)

    def test_other_lots_rows_and_works(self):
        self.assertEqual(regret(W, ORDER), 2)
        right = ((5, 0, 4), (0, 1, 2))
        self.assertIs(is_regret_lot(W, ORDER, right), True)
        self.assertIs(is_regret_lot(W, ORDER, ((50, 0, 40), (0, 1, 2))), True)
        self.assertIs(is_regret_lot(W, ORDER, ((5, 9, 4), (0, 1, 2))), True)
        for thing in [list(right), right[:1], right + (0,), right[::-1], ((5, 0, 4), [0, 1, 2]), ([5, 0, 4], (0, 1, 2)),
                      ((5, 0, 4), (1, 0, 2)), ((5, 0, 4), (2, 1, 0)), ((5, 0, 4), (0, 2)), ((5, 0, 4), (0, 1, 2, 2)),
                      ((5, None, 4), (0, 2)), ((5, None, 4), (0, 1, 2)), ((5, 0, None), (0, 1)), ((1, 9, 4), (0, 1, 2)),
                      ((5, 0), (0, 1, 2)), ((5, 0, 4), (False, 1, 2)), ((5, 0, 4), (0, True, 2)), (None, None)]:
            self.assertIs(is_regret_lot(W, ORDER, thing), False, thing)
        for at in range(3):
            for item in [-1, True, "5", [5], None]:
                self.assertIs(is_regret_lot(W, ORDER, (changed(right[0], at, item), right[1])), False)

    def test_somebody_is_there(self):
        for book, order in [(V, (0, 1, 2)), (Book(((3, 9),)), (0,)), (W, ORDER)]:
            self.assertIs(is_regret_lot(book, order, ((None,) * len(order), ())), False)
        self.assertIs(is_regret_lot(V, (0, 1, 2), ((None, 99, None), (1,))), True)
        self.assertIs(is_regret_lot(V, (0, 1, 2), ((None, 99, None), ())), False)
        self.assertIs(is_regret_lot(Book(((3, 9),)), (0,), ((0,), (0,))), True)

    def test_other_things(self):
        for thing in STRANGE + [deep(kind) for kind in (tuple, list, dict)]:
            self.assertIs(is_regret_lot(W, ORDER, thing), False)
            self.assertIs(is_regret_lot(W, ORDER, (thing, (0, 1, 2))), False)
            self.assertIs(is_regret_lot(W, ORDER, ((5, 0, 4), thing)), False)


class Worst(unittest.TestCase):
    def check(self, book, order):
        """Looks at the pair of an order by its words."""
        told = worst_lot(book, order)
        if worst_late(book, order) == 0:
            self.assertIsNone(told)
            return
        self.assertIsInstance(told, tuple)
        lot, row = told
        self.assertEqual(tuple(sorted(row)), group_there(lot))
        self.assertTrue(all(item is None or item >= 0 for item in lot))
        self.assertTrue(plain_serves(book.windows, row, lot))
        self.assertEqual(plain_late(book.windows, order, lot), worst_late(book, order))
        self.assertIs(is_worst_lot(book, order, told), True)

    def test_against_all_lots(self):
        rnd = random.Random(117)
        found = {}
        for book in small_books(117, 150, 4, 6):
            for order in rnd.sample(orders_of(book), min(6, len(orders_of(book)))):
                self.assertEqual(worst_late(book, order), plain_worst(book.windows, order), (book.windows, order))
                self.check(book, order)
                found[min(3, worst_late(book, order))] = True
        self.assertEqual(len(found), 4)

    def test_none_exactly_for_one_orders(self):
        for book in small_books(118, 60, 5, 12):
            for order in orders_of(book)[::5]:
                self.assertIs(worst_late(book, order) == 0, is_one_order(book, order))
                self.check(book, order)

    def test_w(self):
        self.assertEqual(worst_late(W, ORDER), plain_worst(W.windows, ORDER))
        self.assertEqual(worst_late(W, (2, 1, 0)), plain_worst(W.windows, (2, 1, 0)))
        self.assertGreater(worst_late(W, (2, 1, 0)), worst_late(W, ORDER))

    def test_it_is_at_most_the_regret(self):
        for book in small_books(119, 80, 6, 30):
            for order in orders_of(book)[::41]:
                self.assertLessEqual(worst_late(book, order), regret(book, order))

    def test_six_works(self):
        rnd = random.Random(120)
        for made in [near_windows, random_windows]:
            book = Book(made(rnd, 6, 60))
            for order in [tuple(range(6)), random_row(rnd, range(6))]:
                self.check(book, order)
                self.assertGreaterEqual(worst_late(book, order), worst_late(part(book, (0, 1, 2, 3, 4)),
                                        tuple(work for work in order if work < 5)))
        self.assertEqual(worst_late(SIX, (0, 1, 2, 3, 4, 5)), 0)
        self.assertEqual(worst_late(SIX, (5, 0, 1, 2, 3, 4)), 10)

    def test_pairs_judged(self):
        rnd = random.Random(121)
        found = {}
        for book in small_books(121, 60, 4, 5):
            order = random_row(rnd, range(len(book.windows)))
            most = plain_worst(book.windows, order)
            table = served_by(book.windows)
            late = [lot for lot in table if group_there(lot) and plain_late(book.windows, order, lot) == most]
            for lot in rnd.sample(late, min(4, len(late))) + rnd.sample(sorted(table, key=str), min(6, len(table))):
                for row in permutations(group_there(lot)):
                    wanted = bool(row) and most > 0 and plain_serves(book.windows, row, lot)
                    wanted = wanted and plain_late(book.windows, order, lot) == most
                    self.assertIs(is_worst_lot(book, order, (lot, row)), wanted)
                    found[wanted] = True
        self.assertEqual(len(found), 2)

    def test_wrong_pairs(self):
        right = worst_lot(W, ORDER)
        lot, row = right
        for thing in [list(right), right[:1], right + (0,), right[::-1], (lot, list(row)), (list(lot), row),
                      (lot, row[::-1]), (lot, row[1:]), (lot, row + row[:1]), ((None,) * 3, ()), (None, None)]:
            self.assertIs(is_worst_lot(W, ORDER, thing), False, thing)
        for at in range(3):
            for item in [99, -1, True, "5", [5]]:
                self.assertIs(is_worst_lot(W, ORDER, (changed(lot, at, item), row)), False)
        # So late too, but nobody serves it.
        self.assertEqual(lateness(W, ORDER, (0, 3 + worst_late(W, ORDER), None)), worst_late(W, ORDER))
        self.assertIs(is_worst_lot(W, ORDER, ((0, 3 + worst_late(W, ORDER), None), (0, 1))), False)

    def test_false_of_all_for_one_orders(self):
        for book, order in [(V, (0, 1, 2)), (U, (0, 1)), (Book(((3, 9),)), (0,))]:
            self.assertEqual(worst_late(book, order), 0)
            self.assertIsNone(worst_lot(book, order))
            for lot, orders in list(served_by(book.windows).items())[::5]:
                self.assertIs(is_worst_lot(book, order, (lot, group_there(lot))), False)
        self.assertIs(is_worst_lot(U, (0, 1), ((10, None), (0,))), False)
        for thing in STRANGE:
            self.assertIs(is_worst_lot(U, (0, 1), thing), False)

    def test_other_things(self):
        lot, row = worst_lot(W, ORDER)
        for thing in STRANGE + [deep(kind) for kind in (tuple, list, dict)]:
            self.assertIs(is_worst_lot(W, ORDER, thing), False)
            self.assertIs(is_worst_lot(W, ORDER, (thing, row)), False)
            self.assertIs(is_worst_lot(W, ORDER, (lot, thing)), False)


class Notice(unittest.TestCase):
    def test_against_all_lots(self):
        rnd = random.Random(122)
        found = {}
        for book in small_books(122, 150, 4, 6):
            for order in rnd.sample(orders_of(book), min(4, len(orders_of(book)))):
                self.assertEqual(notice(book, order), plain_notice(book.windows, order), (book.windows, order))
                found[min(3, notice(book, order))] = True
        self.assertEqual(len(found), 4)

    def test_least_notice(self):
        self.assertEqual(notice(W, ORDER), 2)
        self.assertEqual(least_notice(W), (2, (1, 0, 2)))
        self.assertEqual(least_notice(Book(((3, 4),))), (0, (0,)))
        for book in small_books(123, 50, 4, 5):
            self.assertEqual(least_notice(book), min((plain_notice(book.windows, order), order)
                                                     for order in orders_of(book)), book.windows)

    def test_none_exactly_for_one_orders(self):
        for book in small_books(124, 60, 5, 12):
            for order in orders_of(book)[::5]:
                self.assertIs(notice(book, order) == 0, is_one_order(book, order))

    def test_last_hours_that_come_ahead_of_first_hours(self):
        book = Book(((0, 0), (0, 9), (3, 4)))
        for order in orders_of(book):
            self.assertEqual(notice(book, order), plain_notice(book.windows, order))
        point = Book(((5, 5), (2, 2), (0, 9)))
        for order in orders_of(point):
            self.assertEqual(notice(point, order), plain_notice(point.windows, order))
        self.assertEqual(notice(Book(((5, 5), (2, 2))), (0, 1)), 1)
        self.assertEqual(notice(Book(((10 ** 6, 10 ** 6), (0, 0))), (0, 1)), 1)
        self.assertEqual(notice(Book(((10, 15), (0, 6))), (0, 1)), 6)

    def test_great_hours(self):
        book = Book(((0, 10 ** 6), (200001, 500000), (400000, 900000)))
        for order in orders_of(book):
            hours = notice(book, order)
            self.assertEqual(notice(shifted(book, 10 ** 39), order), hours)
            self.assertTrue(0 < hours <= 10 ** 6)
        self.assertEqual(least_notice(book), min((notice(book, order), order) for order in orders_of(book)))

    def test_six_works(self):
        self.assertEqual(notice(SIX, (0, 1, 2, 3, 4, 5)), 0)
        self.assertEqual(notice(SIX, (5, 4, 3, 2, 1, 0)), 5)
        book = Book(random_windows(random.Random(125), 6, 60))
        order = (3, 1, 4, 0, 5, 2)
        self.assertGreaterEqual(notice(book, order), notice(part(book, (0, 1, 2, 3, 4)), (3, 1, 4, 0, 2)))

    def test_five_works(self):
        self.assertEqual(least_notice(FIVE), (0, (0, 1, 2, 3, 4)))
        for seed in range(126, 129):
            book = Book(near_windows(random.Random(seed), 5, 30))
            self.assertEqual(least_notice(book), min((notice(book, order), order) for order in orders_of(book)))


class Wrong(unittest.TestCase):
    def test_no_order(self):
        for order in STRANGE + [(0, 1), [0, 1, 2], (0, 1, 2, 0), (0, 0, 1), (0, True, 2), (1, 2, 3), ()]:
            for book in [W, SEVEN, EIGHT]:
                for call in [regret, regret_lot, worst_late, worst_lot, notice]:
                    raised(self, NoOrder, call, book, order)
                for call in [is_regret_lot, is_worst_lot]:
                    raised(self, NoOrder, call, book, order, ((5, 0, 4), (0, 1, 2)))
                    raised(self, NoOrder, call, book, order, None)

    def test_too_many(self):
        for book in [SEVEN, EIGHT, great_book(1), great_book(2)]:
            order = tuple(range(len(book.windows)))
            for call in [worst_late, worst_lot, notice]:
                self.assertEqual(raised(self, TooMany, call, book, order).most, 6)
            for thing in STRANGE + [((0,) * len(order), order)]:
                self.assertEqual(raised(self, TooMany, is_worst_lot, book, order, thing).most, 6)
        for book in [SIX, SEVEN, great_book(1), great_book(2)]:
            self.assertEqual(raised(self, TooMany, least_notice, book).most, 5)
        for book in [EIGHT, great_book(1), great_book(2)]:
            self.assertEqual(raised(self, TooMany, least_regret, book).most, 7)
