"""What holds over the whole document: equal books are answered alike, and one order is told alike everywhere."""

import random
import unittest
from itertools import permutations

from bymiddles.bars import bar, barred
from bymiddles.bench import Bench
from bymiddles.better import as_good, best, classes, missed
from bymiddles.books import Book, joined, mirrored, part, shifted
from bymiddles.counting import many_lots, many_served, strongest
from bymiddles.cuts import least_cut
from bymiddles.desk import Desk
from bymiddles.later import least_notice, notice, worst_late, worst_lot
from bymiddles.leaving import best_part
from bymiddles.near import nearest, parting, swaps, welcome
from bymiddles.orders import all_orders, is_one_order, many_orders, one_order, order_at, throws
from bymiddles.reading import read_book
from bymiddles.roofs import is_roof, roof
from bymiddles.seeing import helped, lost
from bymiddles.shelves import is_shelf, shelf
from bymiddles.steady import is_steady, steady
from bymiddles.strangers import refuted, rule_refuted
from bymiddles.texts import book_text, lot_text
from bymiddles.within import is_one_within, knot, missed_within, one_within
from tests.plain import (MILLION, STRANGE, U, V, W, plain_one_orders, random_lot, random_row, random_windows,
                         near_windows, served_by)
from tests.test_general import CALLS, SMALL, found, frozen

BOOKS = [W, V, U, SMALL, Book(((0, 3), (1, 2))), Book(((0, 3), (2, 3), (0, 4)))]


def equal_books(book):
    """Books equal to one of which some window begins at 0, returned by many functions."""
    works = len(book.windows)
    last = joined(book, W)
    return [
        Book(tuple((first, last) for first, last in book.windows)), part(last, tuple(range(works))),
        part(joined(W, book), tuple(range(3, 3 + works))), shifted(shifted(book, 10 ** 39), -10 ** 39), shifted(book, 0),
        mirrored(mirrored(book)), part(book, tuple(range(works))), read_book(book_text(book)),
    ] + [other for other in BOOKS if other == book]


def books_of_few(seed, many):
    """Books of one to four works with early hours."""
    rnd = random.Random(seed)
    for at in range(many):
        works, top = rnd.choice([1, 2, 3, 3, 4, 4, 4]), rnd.randint(1, 5)
        book = Book((near_windows if at % 2 else random_windows)(rnd, works, top))
        if max(last for first, last in book.windows) <= 6:
            yield book


class Alike(unittest.TestCase):
    def test_equal_books_are_equal(self):
        for book in BOOKS:
            for other in equal_books(book):
                self.assertIs(type(other), Book)
                self.assertTrue(book == other and other == book)
                self.assertFalse(book != other)
            for thing in STRANGE + [book.windows, list(book.windows)]:
                if not isinstance(thing, Book):
                    self.assertFalse(book == thing or thing == book)

    def test_equal_books_are_answered_alike(self):
        for module in CALLS:
            for name in CALLS[module]:
                for call in CALLS[module][name][1]:
                    if isinstance(call[0], Book):
                        wanted = frozen(found(module, name)(*call))
                        for other in equal_books(call[0]):
                            self.assertEqual(frozen(found(module, name)(other, *call[1:])), wanted, name)

    def test_equal_books_on_the_bench(self):
        rnd = random.Random(251)
        for book in BOOKS:
            for _ in range(5):
                order = random_row(rnd, range(len(book.windows)))
                lot = random_lot(rnd, book.windows, 9)
                wanted = None
                for other in equal_books(book):
                    bench = Bench(other, order)
                    for work in order:
                        bench.away() if lot[work] is None else bench.done(lot[work])
                    told = (bench.now(), bench.lot(), bench.late(), bench.blame(), lot_text(other, lot))
                    self.assertEqual(told, wanted or told)
                    wanted = told
                    self.assertEqual(bench.lot(), lot)


class OneOrder(unittest.TestCase):
    def check_book(self, book):
        """Looks whether all that tells of a book whether it has one order tells the same."""
        orders = all_orders(book)
        works = tuple(range(len(book.windows)))
        has_one = orders != []
        least = orders[0] if has_one else None
        prices = (1,) * len(works)
        wide = ((0, MILLION),) * len(works)
        self.assertEqual(one_order(book), least)
        self.assertEqual(many_orders(book), len(orders))
        self.assertEqual([order_at(book, number) for number in range(len(orders))], orders)
        self.assertEqual(bar(book) is None, has_one)
        self.assertEqual(barred(book) == [], has_one)
        self.assertEqual(shelf(book) == (least,), has_one)
        self.assertEqual(len(shelf(book)) == 1, has_one)
        self.assertEqual(least_cut(book)[0] == 0, has_one)
        self.assertEqual(least_cut(book)[1] == book, has_one)
        self.assertIsNotNone(one_order(least_cut(book)[1]))
        self.assertEqual(best_part(book, prices) == (len(works), works), has_one)
        self.assertEqual(is_roof(book, prices, len(works) - 1, roof(book, prices)), not has_one)
        self.assertEqual(one_within(book, wide), least)
        self.assertEqual(knot(book, wide) is None, has_one)
        self.assertEqual(parting(book) == (works,), has_one)
        self.assertEqual(strongest(book)[0] == many_served(book), has_one)
        self.assertEqual(welcome(book, 6) != [], has_one)
        if has_one:
            self.assertEqual(best(book), orders)
            self.assertIn(orders, classes(book))
            self.assertEqual(least_notice(book), (0, least))
            self.assertEqual((helped(book), lost(book)), ([], []))
            self.assertIs(is_steady(book, least), True)
            self.assertLessEqual(steady(book), least)
            self.assertEqual(strongest(book)[1], least)
        else:
            self.assertGreater(len([row for row in classes(book) if row[0] in best(book)]), 1)
            self.assertGreater(least_notice(book)[0], 0)

    def check_order(self, book, order):
        """Looks whether all that tells of an order whether it is one order tells the same."""
        wide = ((0, MILLION),) * len(book.windows)
        right = order in all_orders(book)
        self.assertIs(is_one_order(book, order), right)
        self.assertEqual(throws(book, order) == [], right)
        self.assertEqual(refuted(book, order) is None, right)
        self.assertEqual(worst_late(book, order) == 0, right)
        self.assertEqual(worst_lot(book, order) is None, right)
        self.assertEqual(notice(book, order) == 0, right)
        self.assertIs(is_shelf(book, (order,)), right)
        self.assertIs(is_one_within(book, wide, order), right)
        self.assertEqual(missed_within(book, wide, order) is None, right)
        self.assertEqual(swaps(book, order) == 0, right)
        self.assertEqual(nearest(book, order) == order, right)
        self.assertEqual(many_lots(book, order) == many_served(book), right)
        every = list(permutations(range(len(book.windows))))
        self.assertEqual(all([as_good(book, order, other) for other in every]), right)
        self.assertEqual(all([missed(book, order, other) is None for other in every]), right)
        refuted_by = rule_refuted(book, lambda group: tuple(work for work in order if work in group))
        self.assertEqual(refuted_by is None, right)

    def check_bench(self, book, order):
        """Looks whether somebody is to blame just where the order does not serve what another one does."""
        for lot, orders in served_by(book.windows).items():
            bench = Bench(book, order)
            for work in order:
                bench.away() if lot[work] is None else bench.done(lot[work])
            self.assertEqual(bench.blame() is not None, order not in orders)
            if is_one_order(book, order):
                self.assertEqual(bench.late(), [])

    def check_desk(self, book):
        """Looks whether the desk tells the same."""
        desk = Desk()
        desk.tell("book a " + book_text(book).replace("\n", "|"))
        orders = all_orders(book)
        self.assertEqual(desk.tell("one a"), ",".join(str(work) for work in orders[0]) if orders else "none")
        self.assertEqual(desk.tell("many a"), str(len(orders)))
        self.assertEqual(desk.tell("bar a") == "none", orders != [])
        for order in permutations(range(len(book.windows))):
            word = ",".join(str(work) for work in order)
            self.assertEqual(desk.tell("throws a " + word) == "0", order in orders)

    def test_all_tell_the_same(self):
        ways = {}
        for book in books_of_few(252, 60):
            self.assertEqual(all_orders(book), plain_one_orders(book.windows), book.windows)
            self.check_book(book)
            self.check_desk(book)
            every = list(permutations(range(len(book.windows))))
            for order in every[::5] + all_orders(book)[:2]:
                self.check_order(book, order)
            for order in every[:1] + all_orders(book)[:1]:
                self.check_bench(book, order)
            ways[all_orders(book) != []] = True
        self.assertEqual(len(ways), 2)

    def test_larger_books(self):
        rnd = random.Random(253)
        ways = {}
        for at in range(60):
            book = Book((near_windows if at % 2 else random_windows)(rnd, rnd.randint(5, 8), 40))
            least = one_order(book)
            works = tuple(range(len(book.windows)))
            self.assertEqual(bar(book) is None, least is not None)
            self.assertEqual(barred(book) == [], least is not None)
            self.assertEqual(best_part(book, (1,) * len(works))[1] == works, least is not None)
            self.assertEqual(parting(book) == (works,), least is not None)
            for order in [random_row(rnd, works), works] + ([] if least is None else [least]):
                right = throws(book, order) == []
                self.assertEqual(refuted(book, order) is None, right)
                self.assertEqual(swaps(book, order) == 0, right)
                told = refuted(book, order)
                if told is not None:
                    bench = Bench(book, order)
                    for work in order:
                        bench.away() if told[0][work] is None else bench.done(told[0][work])
                    self.assertIsNotNone(bench.blame())
            ways[least is None] = True
        self.assertEqual(len(ways), 2)
