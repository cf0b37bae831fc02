"""20.1 to 20.3: near one orders, partings, and windows that are welcome."""

import random
import unittest
from itertools import combinations, permutations

from bymiddles.books import Book, joined, part, shifted
from bymiddles.errors import NoNumber, NoOrder, TooMany
from bymiddles.near import is_parting, nearest, parting, swaps, welcome
from bymiddles.orders import all_orders, many_orders, one_order
from tests.plain import (STRANGE, U, V, W, deep, great_book, near_windows, plain_one_orders, raised, random_row,
                         random_windows, small_books)

NO_ORDERS = [(0, 1), [0, 1, 2], (0, 1, 2, 0), (0, 0, 1), (0, True, 2), (False, 1, 2), (1, 2, 3), (), "012"]
EIGHT = Book(((0, 10),) * 8)
NINE = Book(((0, 10),) * 9)


def pairs_unlike(one, other):
    """How many pairs of works stand one way in the one order and the other way in the other one."""
    return sum(one.index(a) < one.index(b) and other.index(a) > other.index(b) for a, b in permutations(one, 2))


def steps_to(goals, order):
    """From the order to each nearest goal by exchanges of neighbours: the fewest and the goals so far away."""
    seen, reached, steps = {order}, [order], 0
    while not set(reached) & set(goals):
        found = []
        for one in reached:
            for at in range(len(one) - 1):
                other = one[:at] + (one[at + 1], one[at]) + one[at + 2:]
                if other not in seen:
                    seen.add(other)
                    found.append(other)
        reached, steps = found, steps + 1
    return steps, sorted(set(reached) & set(goals))


def all_partings(works):
    """All ways to put works into groups, each an ascending tuple of groups."""
    if not works:
        return [()]
    found = []
    for rest in all_partings(works[1:]):
        found.append(tuple(sorted(((works[0],),) + rest)))
        for at, group in enumerate(rest):
            found.append(tuple(sorted(rest[:at] + ((works[0],) + group,) + rest[at + 1:])))
    return found


class Near(unittest.TestCase):
    def test_against_exchanges_one_by_one(self):
        found = {}
        rnd = random.Random(211)
        for book in small_books(211, 250, 4, 6):
            goals = plain_one_orders(book.windows)
            order = random_row(rnd, range(len(book.windows)))
            if not goals:
                self.assertIsNone(swaps(book, order))
                self.assertIsNone(nearest(book, order))
                continue
            steps, reached = steps_to(goals, order)
            self.assertEqual(swaps(book, order), steps, (book.windows, order))
            self.assertEqual(nearest(book, order), reached[0])
            found[steps] = True
        self.assertTrue(set(found) >= {0, 1, 2, 3, 4}, found)

    def test_the_least_of_several_that_are_as_near(self):
        for windows, order, wanted in [
                (((0, 10), (4, 6), (4, 6)), (1, 0, 2), (0, 1, 2)), (((0, 10), (4, 6), (4, 6)), (2, 0, 1), (0, 2, 1)),
                (((4, 6), (4, 6), (0, 10)), (0, 2, 1), (0, 1, 2)), (((4, 6), (4, 6), (0, 10)), (1, 2, 0), (1, 0, 2)),
                (((4, 6), (0, 10), (4, 6)), (2, 1, 0), (1, 2, 0)), (((4, 6), (0, 10), (4, 6)), (0, 1, 2), (0, 2, 1))]:
            book = Book(windows)
            self.assertEqual(len(steps_to(plain_one_orders(windows), order)[1]), 2)
            self.assertEqual(nearest(book, order), wanted)
            self.assertEqual(swaps(book, order), 1)

    def test_against_all_one_orders(self):
        rnd = random.Random(212)
        for at in range(150):
            book = Book((near_windows if at % 3 else random_windows)(rnd, rnd.randint(3, 7), 9))
            if many_orders(book) > 1000:
                continue
            goals = all_orders(book)
            for _ in range(4):
                order = random_row(rnd, range(len(book.windows)))
                told = min([(pairs_unlike(order, goal), goal) for goal in goals], default=(None, None))
                self.assertEqual((swaps(book, order), nearest(book, order)), told, (book.windows, order))

    def test_all_orders_of_a_book(self):
        for book in [U, V, Book(((0, 10), (4, 6), (4, 6), (1, 9))), Book(((1, 9), (4, 6), (0, 10))), W]:
            goals = plain_one_orders(book.windows)
            for order in permutations(range(len(book.windows))):
                if goals:
                    self.assertEqual((swaps(book, order), [nearest(book, order)]),
                                     (steps_to(goals, order)[0], steps_to(goals, order)[1][:1]))
                else:
                    self.assertEqual((swaps(book, order), nearest(book, order)), (None, None))

    def test_nothing_to_exchange_just_for_one_orders(self):
        for book in small_books(213, 80, 4, 6):
            goals = plain_one_orders(book.windows)
            for order in permutations(range(len(book.windows))):
                self.assertEqual(swaps(book, order) == 0, order in goals)
                self.assertEqual(nearest(book, order) == order, order in goals)

    def test_many_works(self):
        forty = great_book(1)
        back = tuple(range(40))[::-1]
        self.assertEqual(swaps(forty, back), 780)
        self.assertEqual(nearest(forty, back), tuple(range(40)))
        self.assertEqual(nearest(great_book(2), tuple(range(80))[::-1]), tuple(range(80)))
        self.assertEqual(swaps(great_book(2), (1, 0) + tuple(range(2, 80))), 1)

    def test_eight_and_nine_works_of_one_middle(self):
        order = (7, 1, 6, 2, 5, 3, 4, 0)
        self.assertEqual(swaps(EIGHT, order), 0)
        self.assertEqual(nearest(EIGHT, order), order)
        # Works of one window stand as in the order, between those of other middles.
        book = joined(EIGHT, joined(Book(((9, 20),)), shifted(EIGHT, 50)))
        row = random_row(random.Random(214), range(17))
        wanted = tuple(sorted(row, key=lambda work: sum(book.windows[work])))
        self.assertEqual(nearest(book, row), wanted)
        self.assertEqual(swaps(book, row), pairs_unlike(row, wanted))
        for call in [swaps, nearest]:
            for other in [NINE, joined(NINE, W), joined(W, shifted(NINE, 50)), Book(((0, 10), (1, 9), (2, 8)) * 3)]:
                order = tuple(range(len(other.windows)))
                self.assertEqual(raised(self, TooMany, call, other, order).most, 8)
                self.assertEqual(raised(self, TooMany, call, other, order[::-1]).most, 8)

    def test_no_order(self):
        for order in NO_ORDERS + STRANGE + [deep(kind) for kind in (tuple, list, dict)]:
            for book in [W, V, NINE]:
                raised(self, NoOrder, swaps, book, order)
                raised(self, NoOrder, nearest, book, order)


class Partings(unittest.TestCase):
    def test_against_all_ways_to_part(self):
        sizes = {}
        for book in small_books(215, 250, 5, 9):
            works = tuple(range(len(book.windows)))
            right = [one for one in all_partings(works)
                     if all(one_order(part(book, group)) is not None for group in one)]
            told = parting(book)
            self.assertEqual(told, min(right, key=lambda one: (len(one), one)), book.windows)
            for one in all_partings(works):
                self.assertIs(is_parting(book, one), one in right)
            sizes[len(told)] = True
        self.assertTrue(set(sizes) >= {1, 2})

    def test_against_all_lots(self):
        for book in small_books(216, 80, 4, 6):
            works = tuple(range(len(book.windows)))
            right = [one for one in all_partings(works) if all(plain_one_orders(part(book, group).windows)
                                                               for group in one)]
            self.assertEqual(parting(book), min(right, key=lambda one: (len(one), one)), book.windows)

    def test_eight_works(self):
        rnd = random.Random(217)
        sizes = {}
        for at in range(20):
            book = Book((near_windows if at % 2 else random_windows)(rnd, 8, 30))
            told = parting(book)
            self.assertIs(is_parting(book, told), True)
            right = [one for one in all_partings(tuple(range(8))) if len(one) <= len(told) and is_parting(book, one)]
            self.assertEqual(told, min(right, key=lambda one: (len(one), one)))
            sizes[len(told)] = True
        self.assertGreater(len(sizes), 1)
        self.assertEqual(parting(EIGHT), (tuple(range(8)),))

    def test_examples(self):
        self.assertEqual(parting(W), ((0,), (1, 2)))
        self.assertEqual(parting(V), ((0, 1, 2),))
        self.assertEqual(parting(Book(((5, 5),))), ((0,),))
        # Three works one within another and far from one middle: just two of them can be in one group.
        nested = Book(((0, 100), (2, 50), (60, 98), (3, 20), (70, 97)))
        told = parting(nested)
        self.assertIs(is_parting(nested, told), True)
        self.assertGreater(len(told), 1)

    def test_partings_with_something_changed(self):
        self.assertIs(is_parting(W, ((0,), (1, 2))), True)
        for thing in [((0,), (1,), (2,)), ((0, 1), (2,)), ((0, 2), (1,))]:
            self.assertIs(is_parting(W, thing), True, thing)
        for thing in [((0, 1, 2),), ((1, 2), (0,)), ((0,), (2, 1)), ((0,), (1,)), ((0,), (1, 2), (2,)), ((0,), (0, 1, 2)),
                      ((0,), (1, 2), (3,)), ((0,), (1, 2), ()), ((), (0,), (1, 2)), [(0,), (1, 2)], ([0], (1, 2)),
                      ((0,), [1, 2]), ((False,), (1, 2)), ((0,), (True, 2)), ((0,), (1, 2), (1, 2)), ((0,), (1, 2), (0,)),
                      (0, 1, 2), ((0,), 1, 2), (), ((),), ((0,),), ((0, 0), (1, 2)), ((0,), (1, 1, 2)), (((0,),), (1, 2)),
                      {0: (0,), 1: (1, 2)}, ((-1,), (0,), (1, 2)), ((0,), (1, 2), None), ((2,), (0, 1)), (0,)]:
            self.assertIs(is_parting(W, thing), False, thing)

    def test_other_things(self):
        for thing in STRANGE + [deep(kind) for kind in (tuple, list, dict)]:
            self.assertIs(is_parting(W, thing), False)
            self.assertIs(is_parting(W, (thing,)), False)
            self.assertIs(is_parting(W, ((0,), thing)), False)
            self.assertIs(is_parting(W, ((0,), (1, 2), thing)), False)
            self.assertIs(is_parting(W, ((0,), (1, thing))), False)

    def test_more_than_eight_works(self):
        for book in [NINE, great_book(1), great_book(2), joined(W, shifted(NINE, 50))]:
            works = tuple(range(len(book.windows)))
            alone = tuple((work,) for work in works)
            self.assertIs(is_parting(book, alone), True)
            self.assertIs(is_parting(book, alone[::-1]), False)
            self.assertIs(is_parting(book, alone[1:]), False)
            self.assertIs(is_parting(book, ((0, 1),) + alone[2:]), True)
            self.assertIs(is_parting(book, alone + ((works[-1] + 1,),)), False)
            self.assertIs(is_parting(book, (works,)), book.windows[:3] != W.windows)
            self.assertEqual(raised(self, TooMany, parting, book).most, 8)


class Welcome(unittest.TestCase):
    def test_against_all_windows(self):
        rnd = random.Random(218)
        for book in small_books(218, 60, 6, 12):
            most = rnd.randint(0, 8)
            windows = [(first, last) for first in range(most + 1) for last in range(first, most + 1)]
            self.assertEqual(welcome(book, most), [window for window in windows
                                                   if one_order(joined(book, Book((window,)))) is not None])

    def test_against_all_lots(self):
        for book in small_books(219, 25, 3, 5):
            windows = [(first, last) for first in range(5) for last in range(first, 5)]
            self.assertEqual(welcome(book, 4), [window for window in windows
                                                if plain_one_orders(book.windows + (window,))])

    def test_books_with_one_order_and_without(self):
        self.assertEqual(welcome(W, 20), [])
        self.assertEqual(welcome(joined(W, shifted(V, 50)), 20), [])
        self.assertEqual(welcome(V, 0), [(0, 0)])
        self.assertEqual(welcome(Book(((0, 5),)), 1), [(0, 0), (0, 1), (1, 1)])
        self.assertEqual(len(welcome(Book(((3, 9),)), 20)), 231)
        told = welcome(Book(((0, 10), (2, 5))), 20)
        self.assertNotIn((4, 9), told)
        self.assertIn((10, 20), told)
        self.assertEqual(told, sorted(told))
        self.assertEqual(told, welcome(Book(((0, 10), (2, 5))), 20))

    def test_all_and_none(self):
        for most in range(21):
            found = welcome(Book(((0, 20),)), most)
            self.assertEqual(len(found), (most + 1) * (most + 2) // 2)
            self.assertEqual(max(last for first, last in found), most)
            self.assertEqual(welcome(W, most), [])

    def test_eight_and_nine_works(self):
        # A window within theirs would have others on both sides of it, or of one of them.
        self.assertEqual(welcome(EIGHT, 10), [(0, last) for last in range(11)] + [(at, 10) for at in range(1, 11)])
        book = joined(Book(((0, 10), (2, 5))), Book(((20, 20),) * 6))
        windows = [(first, last) for first in range(21) for last in range(first, 21)]
        self.assertEqual(welcome(book, 20), [window for window in windows
                                             if one_order(joined(book, Book((window,)))) is not None])
        self.assertNotIn((4, 9), welcome(book, 20))
        for book in [NINE, great_book(1), great_book(2)]:
            for most in [0, 5, 20]:
                self.assertEqual(raised(self, TooMany, welcome, book, most).most, 8)

    def test_no_number(self):
        for most in [-1, 21, 22, True, False, None, "5", (5,), [5], 10 ** 39, -10 ** 39] + [
                thing for thing in STRANGE if thing != 0 or thing is False]:
            for book in [V, NINE, great_book(2)]:
                raised(self, NoNumber, welcome, book, most)


class Groups(unittest.TestCase):
    def test_three_works_without_one_order(self):
        # The document's fifth fact: where no two works have one middle, it is three works that have none.
        for book in small_books(220, 60, 5, 20):
            threes = [group for group in combinations(range(len(book.windows)), 3)
                      if one_order(part(book, group)) is None]
            if threes:
                self.assertGreater(len(parting(book)), 1)
