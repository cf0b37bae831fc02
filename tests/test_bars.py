"""6.1 and 6.2: bars and barred groups."""

import random
import unittest
from itertools import combinations, permutations

from bymiddles.bars import bar, barred, is_bar
from bymiddles.books import Book, joined, part
from bymiddles.errors import TooMany
from bymiddles.orders import all_orders
from bymiddles.runs import run
from tests.plain import STRANGE, U, V, W, great_book, near_windows, plain_one_orders, random_windows, small_books

# Two of one middle, and two works beside them of which each bars one way in which they may stand.
FOUR = Book(((0, 4), (0, 10), (1, 9), (6, 10)))


def has_order(book, group):
    """Whether these works alone have a one order."""
    return bool(all_orders(part(book, group)))


def least_without(book):
    """The number of works of the least groups without a one order, None if there are none."""
    for size in range(1, len(book.windows) + 1):
        for group in combinations(range(len(book.windows)), size):
            if not has_order(book, group):
                return size
    return None


def run_serves(book, row, lot):
    """Whether each ends by its last hour, as run tells."""
    return all(end <= book.windows[work][1] for work, begin, end in run(book, row, lot))


class Bars(unittest.TestCase):
    def check(self, book, told):
        """Looks at each part of a bar by run."""
        self.assertIsInstance(told, tuple)
        group, table = told
        self.assertIn(len(group), (3, 4))
        self.assertEqual(tuple(sorted(set(group))), group)
        self.assertEqual(sorted(table), sorted(permutations(group)))
        for key, (lot, row) in table.items():
            there = [work for work, item in enumerate(lot) if item is not None]
            self.assertTrue(there and set(there) <= set(group))
            self.assertEqual(tuple(sorted(row)), group)
            self.assertTrue(run_serves(book, row, lot))
            self.assertFalse(run_serves(book, key, lot))
        self.assertIs(is_bar(book, told), True)

    def test_against_all_lots(self):
        sizes = {}
        for book in small_books(41, 250, 4, 6):
            told = bar(book)
            self.assertIs(told is None, bool(plain_one_orders(book.windows)), book.windows)
            sizes[0 if told is None else len(told[0])] = True
            if told is not None:
                self.check(book, told)
        self.assertEqual(sorted(sizes), [0, 3, 4])

    def test_as_few_works_as_any(self):
        sizes = {}
        for book in small_books(42, 150, 7, 15):
            told = bar(book)
            self.assertEqual(None if told is None else len(told[0]), least_without(book), book.windows)
            sizes[least_without(book)] = True
            if told is not None:
                self.check(book, told)
        self.assertEqual(sorted(sizes, key=str), [3, 4, None])

    def test_a_one_order_or_a_bar(self):
        for book in [U, V, Book(((3, 5),)), great_book(1), Book(((0, 9),) * 40), Book(((1, 9), (0, 10), (2, 8)))]:
            self.assertIsNone(bar(book))
        self.assertEqual(bar(W)[0], (0, 1, 2))
        self.check(W, bar(W))

    def test_four_works(self):
        self.assertEqual(bar(FOUR)[0], (0, 1, 2, 3))
        self.check(FOUR, bar(FOUR))
        nested = Book(tuple((at, 20 - at) for at in range(11)))
        self.assertEqual(len(bar(nested)[0]), 4)
        self.check(nested, bar(nested))

    def test_three_where_three_are_enough(self):
        for book in [joined(FOUR, W), joined(W, FOUR), joined(Book(((1, 9), (0, 10), (2, 8), (3, 7))), W)]:
            self.assertEqual(len(bar(book)[0]), 3)
            self.check(book, bar(book))

    def test_where_no_two_have_one_middle(self):
        rnd = random.Random(43)
        found = 0
        for _ in range(200):
            book = Book(random_windows(rnd, 5, 30))
            if len({sum(window) for window in book.windows}) == 5 and not all_orders(book):
                self.assertEqual(len(bar(book)[0]), 3)
                found += 1
        self.assertGreater(found, 20)

    def test_great_books(self):
        rnd = random.Random(44)
        for windows in [random_windows(rnd, 40, 10 ** 6), near_windows(rnd, 40, 60), FOUR.windows * 10,
                        tuple((at, 100 - at) for at in range(40))]:
            self.check(Book(windows), bar(Book(windows)))
        far = joined(great_book(2), Book(((500, 504), (500, 510), (501, 509), (506, 510))))
        self.assertEqual(bar(far)[0], (80, 81, 82, 83))
        self.check(far, bar(far))
        self.assertIsNone(bar(great_book(4)))


class Judged(unittest.TestCase):
    def test_things_that_are_no_bars(self):
        for book in [U, V, W, FOUR]:
            for thing in STRANGE + [((0, 1, 2), {}), ((0, 1), {}), ((), {}), ((0, 1, 2), None), (None, {})]:
                self.assertIs(is_bar(book, thing), False)

    def test_bars_of_more_works_than_needed(self):
        group, table = bar(W)
        book = joined(W, Book(((30, 31),)))
        wide = {key: (lot + (None,), row) for key, (lot, row) in table.items()}
        self.assertIs(is_bar(book, (group, wide)), True)
        four = {}
        for key in permutations(range(4)):
            lot, row = table[tuple(work for work in key if work < 3)]
            four[key] = (lot + (None,), (3,) + row)
        self.assertIs(is_bar(book, ((0, 1, 2, 3), four)), True)
        less = {key: (lot, row[1:]) for key, (lot, row) in four.items()}
        self.assertIs(is_bar(book, ((0, 1, 2, 3), less)), False)

    def test_five_works_are_no_bar(self):
        group, table = bar(W)
        five = {}
        for key in permutations(range(5)):
            lot, row = table[tuple(work for work in key if work < 3)]
            five[key] = (lot + (None, None), row + (3, 4))
        self.assertIs(is_bar(joined(W, U), ((0, 1, 2, 3, 4), five)), False)

    def test_wrong_groups(self):
        group, table = bar(W)
        for wrong in [(0, 2, 1), (0, 1), [0, 1, 2], (0, 1, 3), (0, True, 2), (False, 1, 2), None, "012", (0, 1, 2, 3)]:
            self.assertIs(is_bar(W, (wrong, table)), False)
        for wrong in [[group, table], (group, table, None), (group,), (table, group), {0: group, 1: table}]:
            self.assertIs(is_bar(W, wrong), False)
        self.assertIs(is_bar(W, (group, list(table.items()))), False)
        self.assertIs(is_bar(V, (group, table)), False)

    def test_wrong_keys(self):
        group, table = bar(W)
        for key in table:
            fewer = {other: table[other] for other in table if other != key}
            self.assertIs(is_bar(W, (group, fewer)), False)
            for other in [(0, 1), (0, 0, 1), "012", None, 7]:
                self.assertIs(is_bar(W, (group, {**fewer, other: table[key]})), False)
                self.assertIs(is_bar(W, (group, {**table, other: table[key]})), False)

    def test_wrong_pairs(self):
        group, table = bar(W)
        for key, (lot, row) in table.items():
            wrong = [None, lot, (lot,), (lot, row, row), [lot, row], (row, lot), (lot, key), (list(lot), row),
                     (lot, list(row)), (lot, row[:2]), (lot, row + (0,)), (lot[:2], row), ((None,) * 3, row),
                     ((0, 0, 0), row), ((10 ** 39,) * 3, row), (lot, (0, 1, 1)), (lot, (0, True, 2)),
                     ((None, True, None), row), ((-1,) + lot[1:], row), {}, {0: lot, 1: row}]
            for thing in wrong + STRANGE:
                self.assertIs(is_bar(W, (group, {**table, key: thing})), False)

    def test_lots_with_others_there(self):
        group, table = bar(W)
        book = joined(W, Book(((30, 31),)))
        for item, right in [(None, True), (0, False), (1, False)]:
            wide = {key: (lot + (item,), row) for key, (lot, row) in table.items()}
            self.assertIs(is_bar(book, (group, wide)), right)

    def test_deep_and_long_things(self):
        group, table = bar(W)
        long = (0,) * 9990
        for thing in [(group, {key: long for key in table}), (group, {at: long[:20] for at in range(300)}),
                      ((0,) * 9990, table), (long, long[:5])]:
            self.assertIs(is_bar(W, thing), False)
        thing = group
        for _ in range(37):
            thing = (thing, table)
            self.assertIs(is_bar(W, thing), thing[0] == group)


class Barred(unittest.TestCase):
    def test_by_the_words(self):
        fours = threes = 0
        for book in small_books(45, 100, 6, 12):
            works = range(len(book.windows))
            stuck = [group for size in (3, 4) for group in combinations(works, size) if not has_order(book, group)]
            right = [group for group in stuck if not [one for one in stuck if set(one) < set(group)]]
            self.assertEqual(barred(book), sorted(right))
            fours += len([group for group in right if len(group) == 4])
            threes += len([group for group in right if len(group) == 3])
        self.assertTrue(fours > 5 and threes > 5)

    def test_barred(self):
        self.assertEqual(barred(W), [(0, 1, 2)])
        self.assertEqual(barred(FOUR), [(0, 1, 2, 3)])
        self.assertEqual(barred(V), [])
        self.assertEqual(barred(Book(((0, 0),))), [])
        self.assertEqual(barred(joined(FOUR, shift_of_w())), [(0, 1, 2, 3), (4, 5, 6)])

    def test_twelve_and_thirteen(self):
        nested = Book(tuple((at, 40 - at) for at in range(12)))
        self.assertEqual(barred(nested), list(combinations(range(12), 4)))
        self.assertEqual(barred(part(great_book(1), tuple(range(12)))), [])
        for book in [part(great_book(1), tuple(range(13))), Book(W.windows * 5), great_book(2)]:
            with self.assertRaises(TooMany) as caught:
                barred(book)
            self.assertEqual(caught.exception.most, 12)


def shift_of_w():
    """W far behind."""
    return Book(tuple((first + 100, last + 100) for first, last in W.windows))
