"""4.1 to 4.3: what a row holds, and covers."""

import random
import unittest
from itertools import combinations, permutations

from bymiddles.books import Book, joined
from bymiddles.errors import NoGroup, NoRow, TooMany
from bymiddles.holding import cover, filled, is_cover, is_filled, most, most_of, row_of
from tests.plain import (STRANGE, U, W, great_book, group_there, plain_serves, random_row, random_windows,
                         small_books, small_lots)

NONE_SERVED = Book(((5, 9), (0, 4), (2, 3)))


def samples(seed, many):
    """Books with a row of one work or more."""
    rnd = random.Random(seed)
    for book in small_books(seed, many, 4, 6):
        works = random_row(rnd, range(len(book.windows)))
        yield book, works[:rnd.randint(1, len(works))]


def right_lots(book, row):
    """All lots of just these works that the row serves."""
    lots = [lot for lot in small_lots(book.windows) if group_there(lot) == tuple(sorted(row))]
    return [lot for lot in lots if plain_serves(book.windows, row, lot)]


def total(lot):
    """The sum of the lengths."""
    return sum(item for item in lot if item is not None)


def all_covers(row):
    """All covers of a row without needless repeats, by subsets of the pairs of places."""
    places = range(len(row))
    pairs = [(a, b) for a in places for b in places if a <= b]
    for size in range(1, min(len(pairs), 4) + 1):
        for chosen in combinations(pairs, size):
            if all(any(a <= at <= b for a, b in chosen) for at in places):
                yield chosen


def plain_worth(book, row, pairs):
    """The worth of a cover."""
    return sum(book.windows[row[b]][1] - book.windows[row[a]][0] for a, b in pairs)


class Most(unittest.TestCase):
    def test_most(self):
        self.assertEqual(most(W, (0, 1, 2)), 9)
        self.assertEqual(most(W, (1, 0, 2)), 7)
        self.assertEqual(most(W, (2, 1)), 1)
        self.assertEqual(most(U, (0,)), 10)
        self.assertEqual(most(Book(((0, 2), (5, 9))), (0, 1)), 6)
        self.assertEqual(most(Book(((4, 4),)), (0,)), 0)

    def test_against_all_lots(self):
        none = 0
        for book, row in samples(21, 500):
            lots = right_lots(book, row)
            best = max([total(lot) for lot in lots], default=None)
            self.assertEqual(most(book, row), best, (book.windows, row))
            none += best is None
            if best is None:
                self.assertIsNone(filled(book, row))
            else:
                self.assertIn(filled(book, row), [lot for lot in lots if total(lot) == best])
            for lot in random.Random(1).sample(lots, min(len(lots), 20)):
                self.assertIs(is_filled(book, row, lot), total(lot) == best)
        self.assertTrue(20 < none < 250)

    def test_rows_that_serve_no_lot(self):
        for row in [(0, 1), (0, 2), (0, 1, 2), (1, 0, 2), (2, 0, 1)]:
            self.assertIsNone(most(NONE_SERVED, row))
            self.assertIsNone(filled(NONE_SERVED, row))
            self.assertIsNone(cover(NONE_SERVED, row))
            for thing in [(0, 0, 0), (0, 0, None), None, (None, None, None)] + STRANGE:
                self.assertIs(is_filled(NONE_SERVED, row, thing), False)
            for thing in [((0, len(row) - 1),), [(0, 0), (1, 1), (2, 2)], None, ()] + STRANGE:
                self.assertIs(is_cover(NONE_SERVED, row, thing), False)
        self.assertEqual(most(NONE_SERVED, (2, 1, 0)), 6)

    def test_rows_of_one_work(self):
        for work, (first, last) in enumerate(W.windows):
            lot = tuple(last - first if other == work else None for other in range(3))
            self.assertEqual(most(W, (work,)), last - first)
            self.assertEqual(filled(W, (work,)), lot)
            self.assertEqual(cover(W, (work,)), ((0, 0),))
            self.assertIs(is_filled(W, (work,), lot), True)
            self.assertIs(is_cover(W, (work,), [(0, 0)]), True)

    def test_books_of_forty_works(self):
        rnd = random.Random(22)
        served = 0
        for at in range(40):
            book = Book(tuple((hour, hour + rnd.randint(0, 40)) for hour in rnd.sample(range(10 ** 4), 40)))
            row = tuple(sorted(range(40), key=lambda work: book.windows[work][at % 2]))
            if most(book, row) is None:
                continue
            served += 1
            self.assertEqual(total(filled(book, row)), most(book, row))
            self.assertTrue(plain_serves(book.windows, row, filled(book, row)))
            self.assertEqual(plain_worth(book, row, cover(book, row)), most(book, row))
            self.assertIs(is_filled(book, row, filled(book, row)), True)
            self.assertIs(is_cover(book, row, cover(book, row)), True)
        self.assertGreater(served, 20)
        self.assertEqual(most(great_book(1), tuple(range(40))), 44)
        self.assertEqual(most(great_book(25), tuple(range(1000))), 1004)

    def test_wrong_lots(self):
        right = filled(W, (0, 1, 2))
        for at in range(3):
            for item in [None, right[at] + 1, right[at] - 1, True, str(right[at])]:
                changed = right[:at] + (item,) + right[at + 1:]
                self.assertIs(is_filled(W, (0, 1, 2), changed), False)
        for thing in STRANGE + [list(right), right + (0,), right[:2], (0, 0, 0), (9, 0, 0), (None, None, None)]:
            self.assertIs(is_filled(W, (0, 1, 2), thing), False)
        self.assertIs(is_filled(U, (0,), (10, None)), True)
        self.assertIs(is_filled(U, (0,), (10, 0)), False)
        self.assertIs(is_filled(U, (0, 1), (6, None)), False)

    def test_each_filled_lot_is_right(self):
        self.assertIs(is_filled(U, (0, 1), (6, 0)), True)
        self.assertIs(is_filled(U, (0, 1), (4, 2)), True)
        self.assertIs(is_filled(U, (0, 1), (5, 1)), True)
        self.assertIs(is_filled(U, (0, 1), (3, 2)), False)


class Covers(unittest.TestCase):
    def test_against_all_covers(self):
        shown = 0
        for book, row in samples(23, 200):
            best = most(book, row)
            if best is None:
                self.assertIsNone(cover(book, row))
                continue
            worths = []
            for pairs in all_covers(row):
                worths.append(plain_worth(book, row, pairs))
                self.assertIs(is_cover(book, row, pairs), worths[-1] == best)
                self.assertIs(is_cover(book, row, list(reversed(pairs))), worths[-1] == best)
            self.assertEqual(min(worths), best)
            told = cover(book, row)
            self.assertIsInstance(told, tuple)
            self.assertIn(tuple(sorted(told)), [tuple(sorted(pairs)) for pairs in all_covers(row)])
            self.assertEqual(plain_worth(book, row, told), best)
            shown += len(told) > 1
        self.assertGreater(shown, 5)

    def test_lists_and_other_orders(self):
        book = Book(((0, 2), (5, 9), (20, 21)))
        pairs = ((0, 0), (1, 1), (2, 2))
        for chosen in permutations(pairs):
            self.assertIs(is_cover(book, (0, 1, 2), chosen), True)
            self.assertIs(is_cover(book, (0, 1, 2), list(chosen)), True)
        for at in range(3):
            self.assertIs(is_cover(book, (0, 1, 2), pairs[:at] + pairs[at + 1:]), False)
        self.assertIs(is_cover(book, (0, 1, 2), pairs + ((0, 0),)), False)
        self.assertIs(is_cover(book, (0, 1, 2), ((0, 2),)), False)

    def test_worth_alone_is_not_enough(self):
        book = Book(((0, 2), (5, 9)))
        self.assertEqual(most(book, (0, 1)), 6)
        self.assertIs(is_cover(book, (0, 1), ((0, 0), (1, 1))), True)
        self.assertIs(is_cover(book, (0, 1), ((0, 0),) * 3), False)
        self.assertIs(is_cover(Book(((0, 2), (5, 7))), (0, 1), ((1, 1), (1, 1))), False)

    def test_pairs_that_cost_nothing_may_stand_twice(self):
        book = Book(((4, 4), (4, 7)))
        self.assertIs(is_cover(book, (0, 1), ((0, 0), (0, 0), (1, 1))), True)
        self.assertIs(is_cover(book, (0, 1), ((0, 0), (1, 1), (1, 1))), False)

    def test_places_are_those_of_the_row(self):
        self.assertIs(is_cover(W, (2, 0), ((0, 1),)), True)
        self.assertIs(is_cover(W, (2, 0), ((0, 0), (1, 1))), False)
        self.assertEqual(most(W, (2, 0)), 6)

    def test_wrong_covers(self):
        row = (0, 1, 2)
        self.assertIs(is_cover(W, row, ((0, 2),)), True)
        for thing in [((0, 1),), ((1, 2),), ((2, 0),), ((0, 3),), ((-1, 2),), ((0, 2, 0),), ([0, 2],), ((False, 2),),
                      ((0, 2), (0, 2)), ((0, 2), None), ((0, 2), (1, True)), (0, 2), {(0, 2): 0}, ("02",),
                      ((0, "2"),), ((0, (2,)),), (), [], [()], ((0, 2), (3, 3)), ((0, 2), (2, 1))]:
            self.assertIs(is_cover(W, row, thing), False, thing)
        for thing in STRANGE:
            self.assertIs(is_cover(W, row, thing), False)
        self.assertIs(is_cover(W, (1,), ((False, False),)), False)
        self.assertIs(is_cover(W, row, ((0, 2),) * 3000), False)


class Wrong(unittest.TestCase):
    def test_no_row(self):
        for call in [most, filled, cover, lambda book, row: is_filled(book, row, (0, 0, 0)),
                     lambda book, row: is_cover(book, row, ((0, 0),))]:
            for row in STRANGE + [(), [0, 1], (0, 0), (0, 3), (0, True), (False,), (0, 1, 2, 0)]:
                with self.assertRaises(NoRow):
                    call(W, row)

    def test_no_group(self):
        for call in [most_of, row_of]:
            for group in STRANGE + [(), [0, 1], (1, 0), (0, 0), (0, 3), (0, True), (0, 2, 1)]:
                with self.assertRaises(NoGroup):
                    call(W, group)

    def test_eight_works(self):
        book = great_book(1)
        for call in [most_of, row_of]:
            with self.assertRaises(TooMany) as caught:
                call(book, tuple(range(8)))
            self.assertEqual(caught.exception.most, 7)
            with self.assertRaises(NoGroup):
                call(book, (1, 0) + tuple(range(2, 9)))
            with self.assertRaises(NoGroup):
                call(book, tuple(range(34, 42)))


class MostOf(unittest.TestCase):
    def test_against_all_rows(self):
        rnd = random.Random(24)
        for book in small_books(24, 200, 4, 8):
            works = random_row(rnd, range(len(book.windows)))
            group = tuple(sorted(works[:rnd.randint(1, len(works))]))
            found = [most(book, row) for row in permutations(group)]
            best = max([many for many in found if many is not None], default=None)
            self.assertEqual(most_of(book, group), best)
            row = row_of(book, group)
            if best is None:
                self.assertIsNone(row)
            else:
                self.assertIn(row, list(permutations(group)))
                self.assertEqual(most(book, row), best)

    def test_groups_that_hold_nothing(self):
        book = Book(((0, 9), (5, 5), (3, 3), (0, 3)))
        self.assertEqual(most_of(book, (1, 2)), 0)
        self.assertEqual(row_of(book, (1, 2)), (2, 1))
        self.assertEqual(most_of(W, (1, 2)), 7)

    def test_seven_works(self):
        book = joined(Book(random_windows(random.Random(25), 40, 99)), U)
        group = (0, 3, 8, 20, 39, 40, 41)
        self.assertEqual(most_of(book, group), most(book, row_of(book, group)))
        self.assertEqual(sorted(row_of(book, group)), list(group))
        self.assertEqual(most_of(great_book(1), (0, 1, 2, 3, 4, 5, 6)), 11)
