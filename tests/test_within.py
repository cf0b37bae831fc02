"""17.4: one orders within bounds, what refutes others, and knots."""

import random
import unittest
from itertools import combinations, permutations

from bymiddles.books import Book, joined, part, shifted
from bymiddles.errors import NoBounds, NoOrder, TooMany
from bymiddles.orders import is_one_order, one_order
from bymiddles.strangers import refuted
from bymiddles.within import is_missed_within, is_one_within, knot, missed_within, one_within
from tests.plain import (MILLION, NO_BOUNDS, STRANGE, W, changed, deep, great_book, group_there, plain_serves,
                         raised, random_bounds, random_row, served_by, small_books)

FREE = ((0, 9), (0, 9), (0, 9))
FIVE = Book(((0, 3), (0, 3), (1, 2), (2, 5), (3, 5)))
FIVE_BOUNDS = ((1, 1), (1, 1), (1, 2), (0, 2), (1, 1))
SIX = part(great_book(1), (0, 1, 2, 3, 4, 5))
SEVEN = part(great_book(1), (0, 1, 2, 3, 4, 5, 6))
NO_ORDERS = [(0, 1), [0, 1, 2], (0, 1, 2, 0), (0, 0, 1), (0, True, 2), (False, 1, 2), (1, 2, 3), (), "012"]


def kept_lots(book, bounds):
    """From each lot that keeps the bounds and that some order serves to the list of the orders that serve it."""
    table = served_by(book.windows)
    return {lot: table[lot] for lot in table if all(
        item is None or bounds[work][0] <= item <= bounds[work][1] for work, item in enumerate(lot))}


def plain_within(book, bounds):
    """All one orders within the bounds, by a look at all lots."""
    right = list(permutations(range(len(book.windows))))
    for orders in kept_lots(book, bounds).values():
        right = [order for order in right if order in orders]
    return right


def few_bounds(rnd, windows):
    """Bounds that let a few lengths, most of them in the windows."""
    found = []
    for first, last in windows:
        least = rnd.randint(0, (last - first) // 2 + 1)
        found.append((least, least + rnd.choice([0, 1, 1, 2, 9])))
    return tuple(found)


def samples(seed, many, works=4, top=6):
    """Books with bounds, narrow and wide ones."""
    rnd = random.Random(seed)
    for at, book in enumerate(small_books(seed, many, works, top)):
        yield book, (random_bounds if at % 3 else few_bounds)(rnd, book.windows)


class OneWithin(unittest.TestCase):
    def check(self, book, bounds, order, lots):
        """Looks at what refutes an order, by its words."""
        told = missed_within(book, bounds, order)
        against = [lot for lot in lots if order not in lots[lot]]
        if not against:
            self.assertIsNone(told)
            return
        self.assertIsInstance(told, tuple)
        lot, row = told
        self.assertIn(lot, against)
        self.assertEqual(tuple(sorted(row)), group_there(lot))
        self.assertTrue(plain_serves(book.windows, row, lot))
        self.assertEqual(len(row), min(len(group_there(other)) for other in against))
        self.assertIs(is_missed_within(book, bounds, order, told), True)

    def test_against_all_lots(self):
        found = {}
        for book, bounds in samples(181, 300):
            lots = kept_lots(book, bounds)
            right = plain_within(book, bounds)
            self.assertEqual(one_within(book, bounds), min(right, default=None), (book.windows, bounds))
            for order in permutations(range(len(book.windows))):
                self.assertIs(is_one_within(book, bounds, order), order in right, (book.windows, bounds, order))
                self.check(book, bounds, order, lots)
            found[one_order(book) is None, not right] = True
        self.assertEqual(sorted(found), [(False, False), (True, False), (True, True)])

    def test_five_works(self):
        for book, bounds in samples(182, 12, 5, 4):
            lots = kept_lots(book, bounds)
            right = plain_within(book, bounds)
            self.assertEqual(one_within(book, bounds), min(right, default=None), (book.windows, bounds))
            for order in list(permutations(range(len(book.windows))))[::7]:
                self.check(book, bounds, order, lots)

    def test_four_works_can_be_needed_to_refute(self):
        book = Book(((3, 3), (0, 8), (1, 6), (0, 7)))
        bounds = ((0, 1), (0, 1), (1, 2), (1, 2))
        lots = kept_lots(book, bounds)
        self.check(book, bounds, (0, 1, 2, 3), lots)
        self.assertEqual(len(missed_within(book, bounds, (0, 1, 2, 3))[1]), 4)
        self.assertEqual(len(missed_within(W, FREE, (0, 1, 2))[1]), 2)
        self.assertEqual(len(missed_within(W, FREE, (1, 0, 2))[1]), 3)

    def test_wide_bounds_change_nothing(self):
        rnd = random.Random(184)
        for book in small_books(184, 120, 5, 30):
            exact = tuple((0, last - first) for first, last in book.windows)
            for bounds in [exact, ((0, MILLION),) * len(exact), tuple((0, most + 1) for least, most in exact)]:
                self.assertEqual(one_within(book, bounds), one_order(book))
                self.assertEqual(knot(book, bounds) is None, one_order(book) is not None)
                order = random_row(rnd, range(len(exact)))
                self.assertIs(is_one_within(book, bounds, order), is_one_order(book, order))
                told, known = missed_within(book, bounds, order), refuted(book, order)
                self.assertEqual(told is None, known is None)
                if told is not None:
                    self.assertEqual(len(told[1]), len(known[1]))

    def test_bounds_an_hour_narrower_than_the_windows(self):
        # Only with an hour of work does it matter which of both is ahead.
        book = Book(((0, 2), (0, 3)))
        self.assertEqual(one_order(book), (0, 1))
        self.assertIs(is_one_within(book, ((0, 2), (0, 3)), (1, 0)), False)
        self.assertIs(is_one_within(book, ((0, 2), (0, 2)), (1, 0)), False)
        self.assertIs(is_one_within(book, ((0, 2), (0, 0)), (1, 0)), True)
        self.assertIs(is_one_within(book, ((0, 1), (0, 1)), (1, 0)), True)
        self.assertIs(is_one_within(book, ((1, 1), (2, 2)), (1, 0)), False)
        self.assertEqual(one_within(book, ((3, 3), (0, 3))), (0, 1))
        self.assertIs(is_one_within(book, ((3, 3), (0, 3)), (1, 0)), True)

    def test_bounds_beyond_the_windows(self):
        for book in small_books(185, 40, 5, 8):
            bounds = tuple((last - first + 1, MILLION) for first, last in book.windows)
            self.assertEqual(one_within(book, bounds), tuple(range(len(bounds))))
            self.assertIsNone(missed_within(book, bounds, tuple(range(len(bounds)))[::-1]))
            self.assertIs(is_one_within(book, bounds, tuple(range(len(bounds)))[::-1]), True)
            self.assertIsNone(knot(book, bounds))

    def test_six_works(self):
        bounds = ((0, 9),) * 6
        self.assertEqual(one_within(SIX, bounds), (0, 1, 2, 3, 4, 5))
        self.assertIs(is_one_within(SIX, bounds, (1, 0, 2, 3, 4, 5)), False)
        self.assertEqual(len(missed_within(SIX, bounds, (0, 1, 2, 3, 5, 4))[1]), 2)
        self.assertIsNone(knot(SIX, bounds))
        two = joined(W, shifted(W, 1000))
        self.assertIsNone(one_within(two, FREE + FREE))
        self.assertEqual(knot(two, FREE + FREE), (0, 1, 2))
        self.assertEqual(knot(two, ((0, 0),) * 3 + FREE), (3, 4, 5))
        self.assertEqual(one_within(two, ((1, 3),) * 6), (1, 2, 0, 4, 5, 3))

    def test_great_hours(self):
        book = shifted(W, 10 ** 39)
        self.assertEqual(one_within(book, ((1, 3), (1, 3), (1, 3))), (1, 2, 0))
        self.assertEqual(knot(book, FREE), (0, 1, 2))

    def test_things_that_are_no_orders(self):
        bounds = ((1, 3), (1, 3), (1, 3))
        self.assertIs(is_one_within(W, bounds, (1, 2, 0)), True)
        for thing in NO_ORDERS + STRANGE + [[1, 2, 0], (True, 2, 0), (1, 2, False), (1, 2), (1, 2, 0, 0)]:
            self.assertIs(is_one_within(W, bounds, thing), False)
        for kind in [tuple, list, dict]:
            self.assertIs(is_one_within(W, bounds, deep(kind)), False)


class Missed(unittest.TestCase):
    def test_all_small_pairs(self):
        rnd = random.Random(186)
        for book, bounds in samples(186, 60, 3, 5):
            order = random_row(rnd, range(len(book.windows)))
            kept = kept_lots(book, bounds)
            every = served_by(book.windows)
            for lot in rnd.sample(sorted(every, key=str), min(15, len(every))):
                for row in permutations(group_there(lot)):
                    wanted = lot in kept and order not in kept[lot] and plain_serves(book.windows, row, lot)
                    self.assertIs(is_missed_within(book, bounds, order, (lot, row)), wanted)

    def test_pairs_with_something_changed(self):
        right = ((5, 0, 4), (0, 1, 2))
        self.assertIs(is_missed_within(W, FREE, (1, 0, 2), right), True)
        wrong = [list(right), right[:1], right + (0,), right[::-1], ((5, 0, 4), [0, 1, 2]), ([5, 0, 4], (0, 1, 2)),
                 ((5, 0, 4), (1, 0, 2)), ((5, 0, 4), (0, 2)), ((5, 0, 4), (0, 1, 2, 0)), ((5, 0, 4), (False, 1, 2)),
                 ((5, None, 4), (0, 1, 2)), ((5, None, 4), (0, 2)), ((1, 0, 1), (0, 1, 2)), ((5, 0), (0, 1, 2)),
                 ((None,) * 3, ()), ((5, 0, 4), (0, True, 2))]
        for thing in wrong + [(changed((5, 0, 4), at, item), (0, 1, 2)) for at in range(3)
                              for item in [6, -1, True, "5", None, [5]]]:
            self.assertIs(is_missed_within(W, FREE, (1, 0, 2), thing), False, thing)
        self.assertIs(is_missed_within(W, FREE, (0, 1, 2), right), False)

    def test_bounds_just_kept_and_not_kept(self):
        right = ((5, 0, 4), (0, 1, 2))
        for at, item in enumerate((5, 0, 4)):
            for least, most, wanted in [(item, item, True), (item, item + 1, True), (item + 1, item + 1, False),
                                        (0, item, True), (item, MILLION, True)]:
                bounds = changed(FREE, at, (least, most))
                self.assertIs(is_missed_within(W, bounds, (1, 0, 2), right), wanted)
        self.assertIs(is_missed_within(W, ((0, 4), (0, 9), (0, 9)), (1, 0, 2), right), False)
        self.assertIs(is_missed_within(W, ((0, 9), (0, 9), (0, 3)), (1, 0, 2), right), False)

    def test_other_things(self):
        for thing in STRANGE + [deep(kind) for kind in (tuple, list, dict)]:
            self.assertIs(is_missed_within(W, FREE, (1, 0, 2), thing), False)
            self.assertIs(is_missed_within(W, FREE, (1, 0, 2), (thing, (0, 1, 2))), False)
            self.assertIs(is_missed_within(W, FREE, (1, 0, 2), ((5, 0, 4), thing)), False)

    def test_many_works(self):
        for times in [1, 2]:
            book = great_book(times)
            works = len(book.windows)
            order = (1, 0) + tuple(range(2, works))
            lot = (5, 1) + (None,) * (works - 2)
            bounds = ((0, 9),) * works
            self.assertIs(is_missed_within(book, bounds, order, (lot, (0, 1))), True)
            self.assertIs(is_missed_within(book, bounds, order, (lot, (1, 0))), False)
            self.assertIs(is_missed_within(book, ((0, 4),) * works, order, (lot, (0, 1))), False)
            longer = lot[:works - 1] + (5,)
            self.assertIs(is_missed_within(book, bounds, order, (longer, (0, 1, works - 1))), True)
        seven = (1, 0, 2, 3, 4, 5, 6)
        for told in [((5, 1, 0, 0, 0, 0, 0), (0, 1, 2, 3, 4, 5, 6)), ((5, 1) + (None,) * 5, (0, 1))]:
            self.assertIs(is_missed_within(SEVEN, ((0, 9),) * 7, seven, told), True)
            self.assertIs(is_missed_within(SEVEN, ((1, 9),) * 7, seven, told), told[0][2] is None)


class Knots(unittest.TestCase):
    def plain_knot(self, book, bounds):
        """The first group without a one order within its bounds, by a look at all lots."""
        works = range(len(book.windows))
        for size in range(1, len(works) + 1):
            for group in combinations(works, size):
                if not plain_within(part(book, group), tuple(bounds[work] for work in group)):
                    return group
        return None

    def test_against_all_groups(self):
        found = {}
        for book, bounds in samples(187, 250):
            wanted = self.plain_knot(book, bounds)
            self.assertEqual(knot(book, bounds), wanted, (book.windows, bounds))
            found[None if wanted is None else len(wanted)] = True
        self.assertTrue(set(found) >= {None, 3})

    def test_fewer_works_come_first(self):
        book = joined(shifted(FIVE, 100), W)
        self.assertEqual(knot(part(book, (0, 5, 6, 7)), ((1, 1),) + FREE), (1, 2, 3))
        rnd = random.Random(188)
        for book, bounds in samples(188, 60, 5, 6):
            told = knot(book, bounds)
            if told is None:
                continue
            self.assertIsNone(one_within(part(book, told), tuple(bounds[work] for work in told)))
            groups = [group for size in range(1, len(told) + 1) for group in combinations(range(len(bounds)), size)]
            for group in [group for group in groups if (len(group), group) < (len(told), told)]:
                self.assertIsNotNone(one_within(part(book, group), tuple(bounds[work] for work in group)))
            order = random_row(rnd, range(len(bounds)))
            self.assertIs(is_one_within(book, bounds, order), False)

    def test_a_knot_of_five(self):
        self.assertEqual(knot(FIVE, FIVE_BOUNDS), (0, 1, 2, 3, 4))
        self.assertEqual(plain_within(FIVE, FIVE_BOUNDS), [])
        self.assertIsNone(one_within(FIVE, FIVE_BOUNDS))
        for group in combinations(range(5), 4):
            bounds = tuple(FIVE_BOUNDS[work] for work in group)
            self.assertEqual(one_within(part(FIVE, group), bounds), plain_within(part(FIVE, group), bounds)[0])
        self.assertEqual(knot(joined(FIVE, Book(((90, 99),))), FIVE_BOUNDS + ((0, 9),)), (0, 1, 2, 3, 4))
        self.assertEqual(knot(joined(Book(((90, 99),)), FIVE), ((0, 9),) + FIVE_BOUNDS), (1, 2, 3, 4, 5))

    def test_two_works_always_have_one(self):
        for book, bounds in samples(189, 200, 2, 9):
            self.assertIsNone(knot(book, bounds))
            self.assertIsNotNone(one_within(book, bounds))


class Wrong(unittest.TestCase):
    def test_no_bounds(self):
        for bounds in NO_BOUNDS + STRANGE:
            for book in [W, SEVEN]:
                raised(self, NoBounds, is_one_within, book, bounds, (0, 1, 2))
                raised(self, NoBounds, one_within, book, bounds)
                raised(self, NoBounds, knot, book, bounds)
                for order in [(0, 1, 2), None]:
                    raised(self, NoBounds, missed_within, book, bounds, order)
                    raised(self, NoBounds, is_missed_within, book, bounds, order, ((5, 0, 4), (0, 1, 2)))

    def test_no_order(self):
        for order in NO_ORDERS + STRANGE:
            for book, bounds in [(W, FREE), (SEVEN, ((0, 9),) * 7)]:
                raised(self, NoOrder, missed_within, book, bounds, order)
                raised(self, NoOrder, is_missed_within, book, bounds, order, ((5, 0, 4), (0, 1, 2)))
                raised(self, NoOrder, is_missed_within, book, bounds, order, None)

    def test_seven_works(self):
        for book in [SEVEN, Book(((0, 0),) * 7), great_book(1), great_book(2)]:
            works = len(book.windows)
            bounds = ((0, 9),) * works
            order = tuple(range(works))
            self.assertEqual(raised(self, TooMany, one_within, book, bounds).most, 6)
            self.assertEqual(raised(self, TooMany, knot, book, bounds).most, 6)
            self.assertEqual(raised(self, TooMany, missed_within, book, bounds, order).most, 6)
            for thing in STRANGE + [order, list(order), deep(tuple)]:
                self.assertEqual(raised(self, TooMany, is_one_within, book, bounds, thing).most, 6)
                self.assertIs(is_missed_within(book, bounds, order, thing), False)
        self.assertEqual(one_within(Book(((0, 0),) * 6), ((0, 9),) * 6), (0, 1, 2, 3, 4, 5))
