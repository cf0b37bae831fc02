"""14.1: the bench."""

import random
import unittest
from itertools import permutations

from bymiddles.bench import Bench
from bymiddles.books import Book, joined, part, shifted
from bymiddles.errors import MiddleError, NoLength, NoOrder, NothingDone, Over, TooMany
from bymiddles.orders import one_order
from bymiddles.runs import lateness, run
from tests.plain import (STRANGE, U, V, W, deep, great_book, group_there, near_windows, plain_serves, raised,
                         random_row, random_windows, small_books)

NO_LENGTHS = [-1, -10 ** 39, True, False, None, "0", b"1", (1,), [1], {}, ()]
NO_ORDERS = [(0, 1), [0, 1, 2], (0, 1, 2, 0), (0, 0, 1), (0, True, 2), (False, 1, 2), (1, 2, 3), (), "012"]


class Plain:
    """A plain list of what was done."""

    def __init__(self, windows, order, items=()):
        self.windows, self.order, self.items = windows, order, list(items)

    def ends(self):
        """The list of (work, end) of those that were there."""
        found, hour = [], 0
        for work, item in zip(self.order, self.items):
            if item is not None:
                hour = max(hour, self.windows[work][0]) + item
                found.append((work, hour))
        return found

    def all_told(self):
        """All that a bench tells, blame put aside."""
        lot = [None] * len(self.windows)
        for work, item in zip(self.order, self.items):
            lot[work] = item
        ends = self.ends()
        now = ends[-1][1] if ends else 0
        late = sorted((work, end - self.windows[work][1]) for work, end in ends if end > self.windows[work][1])
        over = len(self.items) == len(self.order)
        turn = None if over else self.order[len(self.items)]
        spare = Over if over else self.windows[turn][1] - max(now, self.windows[turn][0])
        return now, turn, tuple(lot), late, spare, len(self.items)


def spare_of(bench):
    """What it has to spare, or Over."""
    try:
        return bench.spare()
    except Over:
        return Over


def told(bench):
    """All that a bench tells."""
    return bench.now(), bench.turn(), bench.lot(), bench.late(), spare_of(bench), bench.depth()


def random_length(rnd, windows, turn, now):
    """A length, many of them just as long as the work may be, or an hour longer."""
    first, last = windows[turn]
    just = max(0, last - max(first, now))
    return rnd.choice([0, just, just + 1, rnd.randint(0, last - first + 2), rnd.randint(0, 3)])


class Turns(unittest.TestCase):
    def same(self, bench, plain):
        """Looks whether both tell the same."""
        wanted = plain.all_told()
        self.assertEqual(told(bench), wanted)
        self.assertIs(type(bench.late()), list)
        self.assertIs(type(bench.lot()), tuple)
        self.assertEqual(bench.now(), max([end for work, begin, end in run(self.book, plain.order, wanted[2])], default=0))
        worst = lateness(self.book, plain.order, wanted[2])
        self.assertEqual(max([hours for work, hours in bench.late()], default=0), max(0, worst or 0))

    def play(self, rnd, book, turns):
        """Leads a bench through turns, some of them taken back."""
        self.book = book
        order = random_row(rnd, range(len(book.windows)))
        bench, plain = Bench(book, order), Plain(book.windows, order)
        for _ in range(turns):
            self.same(bench, plain)
            turn = plain.all_told()[1]
            kind = rnd.choice(["done", "done", "away", "back"])
            if kind == "back" and not plain.items:
                raised(self, NothingDone, bench.back)
            elif kind == "back":
                self.assertIsNone(bench.back())
                plain.items.pop()
            elif turn is None:
                raised(self, Over, bench.away)
                raised(self, Over, bench.done, 0)
            elif kind == "away":
                self.assertIsNone(bench.away())
                plain.items.append(None)
            else:
                length = random_length(rnd, book.windows, turn, plain.all_told()[0])
                self.assertIsNone(bench.done(length))
                plain.items.append(length)
        return bench, plain

    def test_rows_of_turns(self):
        rnd = random.Random(221)
        for book in small_books(221, 150, 6, 20):
            self.same(*self.play(rnd, book, 25))

    def test_back_through_all_turns_and_once_more(self):
        rnd = random.Random(222)
        for book in small_books(222, 60, 6, 20):
            bench, plain = self.play(rnd, book, 20)
            while plain.items:
                self.assertIsNone(bench.back())
                plain.items.pop()
                self.same(bench, plain)
            for _ in range(3):
                raised(self, NothingDone, bench.back)
                self.same(bench, plain)

    def test_ahead_of_the_first_turn_and_behind_the_last_one(self):
        bench = Bench(W, (1, 0, 2))
        self.assertEqual(told(bench), (0, 1, (None, None, None), [], 3, 0))
        bench.done(3)
        self.assertEqual(told(bench), (5, 0, (None, 3, None), [], 5, 1))
        bench.done(6)
        self.assertEqual(told(bench), (11, 2, (6, 3, None), [(0, 1)], -2, 2))
        bench.done(0)
        self.assertEqual(told(bench), (11, None, (6, 3, 0), [(0, 1), (2, 2)], Over, 3))
        for _ in range(2):
            raised(self, Over, bench.spare)
            raised(self, Over, bench.away)
            raised(self, Over, bench.done, 1)
        self.assertEqual(bench.depth(), 3)

    def test_works_that_fell_away(self):
        bench = Bench(W, (2, 1, 0))
        for depth in range(1, 4):
            self.assertIsNone(bench.away())
            self.assertEqual(told(bench), (0, (1, 0, None)[depth - 1], (None,) * 3, [], spare_of(bench), depth))
        self.assertIsNone(bench.blame())

    def test_one_work(self):
        bench = Bench(Book(((3, 5),)), (0,))
        self.assertEqual(told(bench), (0, 0, (None,), [], 2, 0))
        bench.done(10 ** 39)
        self.assertEqual(told(bench), (10 ** 39 + 3, None, (10 ** 39,), [(0, 10 ** 39 - 2)], Over, 1))
        self.assertIsNone(bench.blame())

    def test_errors_of_done(self):
        bench = Bench(W, (1, 0, 2))
        for length in NO_LENGTHS + STRANGE + [deep(kind) for kind in (tuple, list, dict)]:
            if length == 10 ** 39 and isinstance(length, int):
                continue
            raised(self, NoLength, bench.done, length)
            self.assertEqual(told(bench), (0, 1, (None, None, None), [], 3, 0))
        for _ in range(3):
            bench.away()
        for length in NO_LENGTHS + [0, 1]:
            raised(self, Over, bench.done, length)
        self.assertEqual(bench.depth(), 3)

    def test_no_order(self):
        for order in NO_ORDERS + STRANGE + [deep(kind) for kind in (tuple, list, dict)]:
            raised(self, NoOrder, Bench, W, order)
        for order in permutations(range(3)):
            self.assertEqual(Bench(W, order).turn(), order[0])

    def test_more_than_forty_works(self):
        book = great_book(3)
        rnd = random.Random(223)
        self.same(*self.play(rnd, book, 300))
        bench = Bench(book, tuple(range(120)))
        for work in range(120):
            self.assertEqual(bench.turn(), work)
            self.assertEqual(bench.spare(), 5)
            bench.done(1)
        self.assertEqual((bench.now(), bench.late(), bench.blame(), bench.depth()), (120, [], None, 120))
        for work in range(120):
            bench.back()
        raised(self, NothingDone, bench.back)

    def test_lists_are_new(self):
        bench = Bench(W, (1, 0, 2))
        bench.done(9)
        bench.late().clear()
        self.assertEqual(bench.late(), [(1, 6)])
        self.assertIsNot(bench.late(), bench.late())


class Copies(unittest.TestCase):
    def test_copies_go_on_apart(self):
        rnd = random.Random(224)
        for book in small_books(224, 80, 6, 20):
            order = random_row(rnd, range(len(book.windows)))
            pairs = [(Bench(book, order), Plain(book.windows, order))]
            for _ in range(30):
                bench, plain = rnd.choice(pairs)
                kind = rnd.choice(["done", "done", "away", "back", "copy"])
                over = plain.all_told()[1] is None
                if kind == "copy":
                    other = bench.copy()
                    self.assertIs(type(other), Bench)
                    self.assertIsNot(other, bench)
                    pairs.append((other, Plain(book.windows, order, plain.items)))
                elif kind == "back" and plain.items:
                    bench.back()
                    plain.items.pop()
                elif kind != "back" and not over:
                    length = None if kind == "away" else rnd.randint(0, 9)
                    bench.away() if length is None else bench.done(length)
                    plain.items.append(length)
                for bench, plain in pairs:
                    self.assertEqual(told(bench), plain.all_told())
            for bench, plain in pairs:
                while plain.items:
                    bench.back()
                    plain.items.pop()
                    self.assertEqual(told(bench), plain.all_told())
                raised(self, NothingDone, bench.back)

    def test_a_copy_of_a_copy(self):
        bench = Bench(V, (2, 1, 0))
        bench.done(3)
        other = bench.copy().copy()
        other.away()
        bench.back()
        self.assertEqual(told(other), (8, 0, (None, None, 3), [], -2, 2))
        self.assertEqual(told(bench), (0, 2, (None, None, None), [], 7, 0))
        third = other.copy()
        other.back()
        other.back()
        raised(self, NothingDone, other.back)
        self.assertEqual(third.depth(), 2)

    def test_equal_to_nothing_of_another_kind(self):
        bench = Bench(V, (2, 1, 0))
        for thing in STRANGE:
            self.assertFalse(bench == thing)


class Trying(unittest.TestCase):
    def setUp(self):
        self.bench = Bench(W, (1, 0, 2))
        self.bench.done(3)
        self.before = told(self.bench)

    def check(self):
        """Looks whether all is as it was, what can be taken back as well."""
        self.assertEqual(told(self.bench), self.before)
        other = self.bench.copy()
        other.back()
        self.assertEqual(told(other), (0, 1, (None, None, None), [], 3, 0))
        raised(self, NothingDone, other.back)

    def test_turns_are_put_back(self):
        def action(bench):
            self.assertIs(bench, self.bench)
            bench.done(9)
            bench.away()
            return told(bench)
        self.assertEqual(self.bench.trying(action), (14, None, (9, 3, None), [(0, 4)], Over, 3))
        self.check()

    def test_what_was_taken_back_can_be_taken_back_again(self):
        def action(bench):
            bench.back()
            raised(self, NothingDone, bench.back)
            bench.away()
            bench.done(1)
            bench.back()
            bench.back()
            bench.done(7)
        self.assertIsNone(self.bench.trying(action))
        self.check()

    def test_errors_go_on(self):
        for error in [KeyError("a"), ValueError(), MiddleError(), ZeroDivisionError(), KeyboardInterrupt(), SystemExit(3),
                      GeneratorExit(), StopIteration(), RuntimeError("b")]:
            def action(bench):
                bench.away()
                bench.done(1)
                raise error
            with self.assertRaises(type(error)) as caught:
                self.bench.trying(action)
            self.assertIs(caught.exception, error)
            self.check()
        raised(self, NoLength, self.bench.trying, lambda bench: bench.done(-1))
        self.check()

        def too_far(bench):
            while True:
                bench.done(2)
        raised(self, Over, self.bench.trying, too_far)
        self.check()
        raised(self, NothingDone, self.bench.trying, lambda bench: [bench.back() for _ in range(9)])
        self.check()

    def test_what_it_returns(self):
        for thing in STRANGE:
            self.assertIs(self.bench.trying(lambda bench: thing), thing)
        self.assertIs(self.bench.trying(lambda bench: bench), self.bench)
        self.assertEqual(self.bench.trying(Bench.now), 5)
        self.assertEqual(self.bench.trying(lambda bench: bench.done(5)), None)
        self.check()

    def test_trying_while_trying(self):
        def inner(bench):
            bench.away()
            return told(bench)

        def action(bench):
            bench.done(4)
            within = bench.trying(inner)
            return within, told(bench)
        self.assertEqual(self.bench.trying(action), ((9, None, (4, 3, None), [], Over, 3),
                                                     (9, 2, (4, 3, None), [], 0, 2)))
        self.check()

    def test_copies_made_while_trying_go_on(self):
        def action(bench):
            bench.done(4)
            return bench.copy()
        other = self.bench.trying(action)
        self.check()
        self.assertEqual(told(other), (9, 2, (4, 3, None), [], 0, 2))
        other.back()
        self.assertEqual(told(other), self.before)
        self.check()


class Blame(unittest.TestCase):
    def test_against_all_rows(self):
        rnd = random.Random(225)
        found = {}
        for at in range(300):
            book = Book((near_windows if at % 2 else random_windows)(rnd, rnd.randint(1, 5), 12))
            order = random_row(rnd, range(len(book.windows)))
            bench, plain = Bench(book, order), Plain(book.windows, order)
            for work in order[:rnd.randint(1, 5)]:
                item = rnd.choice([None, 0, 1, random_length(rnd, book.windows, work, 0)])
                bench.away() if item is None else bench.done(item)
                plain.items.append(item)
            lot = bench.lot()
            rows = [row for row in permutations(group_there(lot)) if plain_serves(book.windows, row, lot)]
            late = bool(plain.all_told()[3])
            if late and rows:
                self.assertIn(bench.blame(), rows)
            else:
                self.assertIsNone(bench.blame())
            found[late, bool(rows)] = True
            self.assertEqual(told(bench), plain.all_told())
        self.assertEqual(sorted(found), [(False, True), (True, False), (True, True)])

    def test_nobody_there(self):
        bench = Bench(U, (0, 1))
        self.assertIsNone(bench.blame())
        bench.away()
        self.assertIsNone(bench.blame())

    def test_with_one_order_nobody_is_to_blame(self):
        rnd = random.Random(226)
        for book in small_books(226, 150, 6, 20):
            order = one_order(book)
            if order is not None:
                bench = Bench(book, order)
                while bench.turn() is not None:
                    length = random_length(rnd, book.windows, bench.turn(), bench.now())
                    bench.done(length) if rnd.random() < 0.8 else bench.away()
                    self.assertIsNone(bench.blame())

    def test_ten_and_eleven_there(self):
        for book in [part(great_book(1), tuple(range(12))), great_book(1), great_book(2),
                     joined(Book(((0, 5),) * 12), shifted(V, 50))]:
            bench = Bench(book, tuple(range(len(book.windows)))[::-1])
            for _ in range(10):
                bench.done(0)
            self.assertTrue(bench.late())
            row = bench.blame()
            self.assertEqual(tuple(sorted(row)), group_there(bench.lot()))
            self.assertTrue(plain_serves(book.windows, row, bench.lot()))
            bench.done(0)
            self.assertEqual(raised(self, TooMany, bench.blame).most, 10)
            self.assertEqual(bench.depth(), 11)
            bench.back()
            bench.away()
            self.assertEqual(len(bench.blame()), 10)

    def test_too_many_just_if_somebody_was_late(self):
        book = part(great_book(1), tuple(range(12)))
        bench = Bench(book, tuple(range(12)))
        for _ in range(12):
            bench.done(0)
            self.assertIsNone(bench.blame())
        bench.back()
        bench.done(6)
        self.assertEqual(bench.late(), [(11, 1)])
        self.assertEqual(raised(self, TooMany, bench.blame).most, 10)
        bench.back()
        bench.away()
        self.assertIsNone(bench.blame())
        bench = Bench(Book(((0, 9),) * 10 + ((0, 3), (20, 20))), tuple(range(12)))
        for _ in range(9):
            bench.done(0)
        bench.done(4)
        self.assertIsNone(bench.blame())
        bench.back()
        bench.away()
        bench.done(4)
        self.assertEqual(bench.late(), [(10, 1)])
        self.assertIsNone(bench.blame())
        bench.back()
        bench.back()
        bench.done(4)
        bench.done(0)
        self.assertEqual(raised(self, TooMany, bench.blame).most, 10)
