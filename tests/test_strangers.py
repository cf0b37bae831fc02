"""7.1 and 7.2: orders and rules refuted."""

import random
import unittest
from itertools import combinations, permutations

from bymiddles.books import Book, joined, part
from bymiddles.errors import MiddleError, NoOrder, NoRule, TooMany
from bymiddles.orders import all_orders, is_one_order, one_order
from bymiddles.strangers import is_refuted, refuted, rule_refuted
from tests.plain import (STRANGE, U, V, W, great_book, group_there, near_windows, plain_serves, random_row,
                         random_windows, small_books, small_lots)


def fewest(book, order):
    """How few works are enough for a lot that some row serves and this order does not, by a look at all lots."""
    sizes = []
    for lot in small_lots(book.windows):
        if not plain_serves(book.windows, order, lot):
            rows = permutations(group_there(lot))
            if any(plain_serves(book.windows, row, lot) for row in rows):
                sizes.append(len(group_there(lot)))
    return min(sizes, default=None)


def plain_refutes(book, group, row):
    """Whether some lot of just this group is served by some row, but not by this one."""
    for lot in small_lots(book.windows):
        if group_there(lot) == group and not plain_serves(book.windows, row, lot):
            if any(plain_serves(book.windows, other, lot) for other in permutations(group)):
                return True
    return False


def groups(works):
    """All groups of one work or more, in the order in which a rule is asked."""
    return [group for size in range(1, works + 1) for group in combinations(range(works), size)]


def rule_of(order, asked=None):
    """The rule that an order makes; it notes what it is asked."""
    def rule(group):
        if asked is not None:
            asked.append(group)
        return tuple(work for work in order if work in group)
    return rule


class Refuted(unittest.TestCase):
    def check(self, book, order):
        """Looks at a pair by its words, and returns how many works are there."""
        told = refuted(book, order)
        if told is None:
            self.assertIs(is_one_order(book, order), True)
            return None
        self.assertIsInstance(told, tuple)
        lot, row = told
        self.assertEqual(len(lot), len(book.windows))
        self.assertEqual(tuple(sorted(row)), group_there(lot))
        self.assertTrue(all(item is None or item >= 0 for item in lot))
        self.assertTrue(plain_serves(book.windows, row, lot), (book.windows, order, told))
        self.assertFalse(plain_serves(book.windows, order, lot), (book.windows, order, told))
        self.assertIs(is_refuted(book, order, told), True)
        return len(row)

    def test_as_few_works_as_can_be(self):
        sizes = {}
        rnd = random.Random(51)
        for book in small_books(51, 120, 4, 5):
            for order in permutations(range(len(book.windows))):
                if rnd.random() < 0.3:
                    sizes[self.check(book, order)] = True
                    self.assertEqual(self.check(book, order), fewest(book, order))
        self.assertEqual(sorted(sizes, key=str), [2, 3, None])

    def test_orders_of_small_books(self):
        for book in small_books(52, 300, 5, 30):
            for order in permutations(range(len(book.windows))):
                size = self.check(book, order)
                middles = [sum(book.windows[work]) for work in order]
                self.assertEqual(size == 2, middles != sorted(middles))

    def test_orders_of_forty_works(self):
        rnd = random.Random(53)
        for at in range(60):
            made = near_windows if at % 2 else random_windows
            book = Book(made(rnd, 40, 10 ** (at % 5 + 1)))
            shuffled = random_row(rnd, range(40))
            self.assertEqual(self.check(book, shuffled), 2)
            by_middles = tuple(sorted(shuffled, key=lambda work: sum(book.windows[work])))
            self.assertIn(self.check(book, by_middles), (3, None))
        self.assertIsNone(refuted(great_book(1), tuple(range(40))))
        self.assertEqual(self.check(great_book(2), tuple(range(78)) + (79, 78)), 2)

    def test_works_without_hours(self):
        book = Book(((5, 5), (3, 3), (0, 2)))
        self.assertEqual(self.check(book, (0, 1, 2)), 2)
        self.assertEqual(self.check(book, (2, 0, 1)), 2)
        self.assertIsNone(self.check(book, (2, 1, 0)))

    def test_pairs_that_refute_with_more_works(self):
        self.assertIs(is_refuted(W, (1, 0, 2), ((5, 0, 4), (0, 1, 2))), True)
        self.assertIs(is_refuted(W, (0, 1, 2), ((4, 2, 2), (1, 2, 0))), True)
        self.assertIs(is_refuted(W, (0, 1, 2), ((4, 2, None), (1, 0))), True)
        wide = joined(W, Book(((30, 31), (40, 40))))
        self.assertIs(is_refuted(wide, (1, 0, 2, 3, 4), ((5, 0, 4, 1, 0), (0, 1, 2, 3, 4))), True)

    def test_wrong_pairs(self):
        right = ((5, 0, 4), (0, 1, 2))
        for thing in [list(right), right + (None,), right[:1], right[::-1], ((5, 0, 4), (1, 0, 2)), ((5, 0, 4), (0, 1)),
                      ((5, 0, 4), [0, 1, 2]), ([5, 0, 4], (0, 1, 2)), ((5, 0), (0, 1)), ((5, False, 4), (0, 1, 2)),
                      ((5, 0, 4), (False, 1, 2)), ((5, 0, 4), (0, True, 2)), ((5, 0, 4), (0, 1, 2, 0)),
                      ((5, 0, None), (0, 1, 2)), ((5, None, 4), (0, 1, 2)), ((5, 0, 3), (2, 0, 1)),
                      ((1, 0, 1), (0, 1, 2)), ((5, 0, 5), (0, 1, 2)), ((-5, 0, 4), (0, 1, 2)), (None, None),
                      ((None, None, None), ()), ((), ()), {0: right}] + STRANGE:
            self.assertIs(is_refuted(W, (1, 0, 2), thing), False, repr(thing)[:80])
        self.assertIs(is_refuted(W, (0, 1, 2), right), False)

    def test_one_orders_are_not_refuted(self):
        rnd = random.Random(54)
        for book in small_books(54, 100, 4, 6):
            for order in all_orders(book)[:3]:
                self.assertIsNone(refuted(book, order))
                for lot in rnd.sample(small_lots(book.windows), min(10, len(small_lots(book.windows)))):
                    self.assertIs(is_refuted(book, order, (lot, random_row(rnd, group_there(lot)))), False)

    def test_no_order(self):
        for order in STRANGE + [(0, 1), (0, 1, 2, 0), [0, 1, 2], (0, 0, 1), (0, True, 2), (1, 2, 3), ()]:
            with self.assertRaises(NoOrder):
                refuted(W, order)
            with self.assertRaises(NoOrder):
                is_refuted(W, order, None)
            with self.assertRaises(NoOrder):
                is_refuted(W, order, ((5, 0, 4), (0, 1, 2)))


class Rules(unittest.TestCase):
    def check(self, book, told):
        """Looks at a triple by its words."""
        group, lot, row = told
        self.assertIsInstance(told, tuple)
        self.assertEqual(group_there(lot), group)
        self.assertEqual(tuple(sorted(row)), group)
        self.assertTrue(plain_serves(book.windows, row, lot))

    def test_against_all_lots(self):
        rnd = random.Random(55)
        found = {}
        for book in small_books(55, 250, 4, 5):
            works = len(book.windows)
            rows = {group: random_row(rnd, group) for group in groups(works)}
            if rnd.random() < 0.7:
                rows = {group: tuple(sorted(group, key=lambda x: sum(book.windows[x]))) for group in rows}
            first = [group for group in groups(works) if plain_refutes(book, group, rows[group])][:1]
            asked = []
            told = rule_refuted(book, lambda group: asked.append(group) or rows[group])
            if not first:
                self.assertIsNone(told)
                self.assertEqual(asked, groups(works))
                found[0] = True
                continue
            self.assertEqual(told[0], first[0])
            self.assertEqual(asked, groups(works)[:groups(works).index(first[0]) + 1])
            self.check(book, told)
            self.assertFalse(plain_serves(book.windows, rows[told[0]], told[1]))
            found[len(told[0])] = True
        self.assertEqual(sorted(found)[:3], [0, 2, 3])

    def test_one_orders_make_rules(self):
        for book in small_books(56, 80, 5, 12):
            for order in all_orders(book)[:2]:
                asked = []
                self.assertIsNone(rule_refuted(book, rule_of(order, asked)))
                self.assertEqual(asked, groups(len(book.windows)))

    def test_each_group_is_asked_once_and_none_behind(self):
        asked = []
        told = rule_refuted(W, rule_of((0, 1, 2), asked))
        self.assertEqual(told[0], (0, 1))
        self.assertEqual(asked, [(0,), (1,), (2,), (0, 1)])
        self.check(W, told)

    def test_refuted_with_three_works(self):
        told = rule_refuted(W, rule_of((1, 0, 2)))
        self.assertEqual(told[0], (0, 1, 2))
        self.assertFalse(plain_serves(W.windows, (1, 0, 2), told[1]))
        self.check(W, told)

    def test_a_rule_for_a_book_without_a_one_order(self):
        book = Book(((2, 2), (3, 3), (0, 5)))
        self.assertIsNone(one_order(book))
        self.assertIsNone(rule_refuted(book, lambda group: (2, 1) if group == (1, 2) else group))
        self.assertEqual(rule_refuted(book, lambda group: group)[0], (1, 2))
        told = rule_refuted(W, lambda group: (1, 0) + group[2:] if group[:2] == (0, 1) else group)
        self.assertEqual(told[0], (0, 1, 2))
        self.check(W, told)

    def test_wrong_things(self):
        wrong = STRANGE + [(), (0, 1, 2), (1, 0, 0), [1, 0], (1,), (True, 0), (1, False), (0, 2), (0, 1, 1), "10"]
        for thing in wrong:
            with self.assertRaises(NoRule) as caught:
                rule_refuted(W, lambda group, thing=thing: thing if group == (0, 1) else group)
            self.assertEqual(caught.exception.group, (0, 1))
        with self.assertRaises(NoRule) as caught:
            rule_refuted(W, lambda group: None)
        self.assertEqual(caught.exception.group, (0,))
        with self.assertRaises(NoRule) as caught:
            rule_refuted(V, lambda group: list(group) if len(group) == 3 else group)
        self.assertEqual(caught.exception.group, (0, 1, 2))

    def test_wrong_things_behind_a_group_that_refutes(self):
        told = rule_refuted(W, lambda group: None if len(group) == 3 or group == (0, 2) else group)
        self.assertEqual(told[0], (0, 1))
        with self.assertRaises(NoRule) as caught:
            rule_refuted(W, lambda group: None if group in ((0, 2), (1, 2)) else group[::-1])
        self.assertEqual(caught.exception.group, (0, 2))

    def test_errors_of_the_rule_go_on(self):
        for error in [KeyError("x"), ValueError("y"), NoRule(7), MiddleError("z"), RecursionError(), StopIteration()]:
            def rule(group):
                if group == (1, 2):
                    raise error
                return group
            with self.assertRaises(type(error)) as caught:
                rule_refuted(V, rule)
            self.assertIs(caught.exception, error)
        self.assertEqual(rule_refuted(W, lambda group: group if len(group) < 3 else 1 // 0)[0], (0, 1))

    def test_five_and_six_works(self):
        five = part(great_book(1), (0, 1, 2, 3, 4))
        self.assertIsNone(rule_refuted(five, lambda group: group))
        self.assertEqual(rule_refuted(five, lambda group: group[::-1])[0], (0, 1))
        told = rule_refuted(five, lambda group: group if len(group) < 5 else group[::-1])
        self.assertEqual(told[0], (0, 1, 2, 3, 4))
        self.check(five, told)
        asked = []
        for book in [part(great_book(1), (0, 1, 2, 3, 4, 5)), great_book(1), great_book(2)]:
            with self.assertRaises(TooMany) as caught:
                rule_refuted(book, asked.append)
            self.assertEqual(caught.exception.most, 5)
        self.assertEqual(asked, [])

    def test_one_work(self):
        self.assertIsNone(rule_refuted(Book(((3, 4),)), lambda group: group))
        self.assertEqual(rule_refuted(U, lambda group: group[::-1]), None)
