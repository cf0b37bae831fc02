"""18.1 to 18.3: plans and doubts."""

import random
import unittest
from itertools import combinations, permutations, product

from bymiddles.books import Book, joined, part, shifted
from bymiddles.errors import NoGroup, TooLate, TooMany
from bymiddles.seeing import doubt, helped, is_doubt, is_plan, lost, plan
from bymiddles.steady import steady
from tests.plain import (STRANGE, V, W, changed, deep, great_book, plain_serves, raised, random_row, random_windows,
                         small_books)

SMALL = Book(((0, 8), (2, 5), (4, 7)))
# A plan serves all of it, but no steady order does: whoever is first tells which of the others is next.
HELPED = Book(((0, 3), (2, 3), (0, 4)))
ALL = (0, 1, 2)
NO_GROUPS = [(), [0, 1], (1, 0), (0, 0), (0, 3), (0, True), (False, 1), (-1, 0), ((0, 1),), "01", (0, 1, 2, 0)]


def books_with_groups(seed, many, top=5):
    """Books of one to four works with a group of one to three of them."""
    rnd = random.Random(seed)
    for book in small_books(seed, many, 4, top):
        if max(last for first, last in book.windows) <= 8:
            works = random_row(rnd, range(len(book.windows)))
            yield book, tuple(sorted(works[:rnd.choice([1, 2, 3, 3, 3])]))


def lengths(book, work):
    """The lengths that a work can have in its window."""
    first, last = book.windows[work]
    return range(last - first + 1)


def group_lots(book, group):
    """All lots of just these works, no length beyond its window."""
    lots = []
    for items in product(*[lengths(book, work) for work in group]):
        lot = [None] * len(book.windows)
        for work, item in zip(group, items):
            lot[work] = item
        lots.append(tuple(lot))
    return lots


def served_lots(book, group):
    """Those of them that some row serves."""
    rows = list(permutations(group))
    return [lot for lot in group_lots(book, group) if any(plain_serves(book.windows, row, lot) for row in rows)]


def has_plan(book, row, left, lots):
    """Whether these lots can all be served, the works of the row being done and those left being chosen one by one."""
    if not left:
        return all(plain_serves(book.windows, row, lot) for lot in lots)
    for work in left:
        others = tuple(other for other in left if other != work)
        parts = [[lot for lot in lots if lot[work] == item] for item in lengths(book, work)]
        if all(has_plan(book, row + (work,), others, inner) for inner in parts):
            return True
    return False


def followed(thing, lot):
    """The row to which a lot comes by a plan."""
    row = ()
    while thing != ():
        work, plans = thing
        row += (work,)
        thing = plans[lot[work]]
    return row


def is_plan_form(book, left, thing):
    """Whether a thing has the form of a plan for the works that are left."""
    if not left:
        return thing == ()
    return (isinstance(thing, tuple) and len(thing) == 2 and thing[0] in left and isinstance(thing[1], tuple)
            and len(thing[1]) == len(lengths(book, thing[0]))
            and all(is_plan_form(book, [other for other in left if other != thing[0]], one) for one in thing[1]))


def is_good_plan(book, group, thing):
    """Whether a plan brings each lot that can be served to a row that serves it."""
    return all(plain_serves(book.windows, followed(thing, lot), lot) for lot in served_lots(book, group))


def told_by(book, thing, row):
    """The lot to which a row comes by a doubt."""
    lot = [None] * len(book.windows)
    for work in row:
        lot[work], thing = thing[work]
    return tuple(lot)


def is_doubt_form(book, left, thing):
    """Whether a thing has the form of a doubt for the works that are left."""
    if not isinstance(thing, dict) or sorted(thing) != sorted(left):
        return False
    return all(isinstance(pair, tuple) and len(pair) == 2 and pair[0] in lengths(book, work)
               and is_doubt_form(book, [other for other in left if other != work], pair[1])
               for work, pair in thing.items())


def is_good_doubt(book, group, thing):
    """Whether each row comes by a doubt to a lot that some row serves, while it does not."""
    lots = served_lots(book, group)
    told = [(row, told_by(book, thing, row)) for row in permutations(group)]
    return all(lot in lots and not plain_serves(book.windows, row, lot) for row, lot in told)


def random_plan(rnd, book, left):
    """Some plan for the works that are left."""
    if not left:
        return ()
    work = rnd.choice(left)
    others = [other for other in left if other != work]
    return work, tuple(random_plan(rnd, book, others) for _ in lengths(book, work))


def random_doubt(rnd, book, left):
    """Some doubt for the works that are left."""
    found = {}
    for work in left:
        found[work] = (rnd.choice(lengths(book, work)), random_doubt(rnd, book, [one for one in left if one != work]))
    return found


def all_plans(book, left):
    """All plans for the works that are left."""
    if not left:
        return [()]
    found = []
    for work in left:
        plans = all_plans(book, [other for other in left if other != work])
        found.extend((work, some) for some in product(plans, repeat=len(lengths(book, work))))
    return found


def all_doubts(book, left):
    """All doubts for the works that are left."""
    if not left:
        return [{}]
    choices = []
    for work in left:
        inner = all_doubts(book, [other for other in left if other != work])
        choices.append([(item, one) for item in lengths(book, work) for one in inner])
    return [dict(zip(left, some)) for some in product(*choices)]


def changed_in_tuples(thing, items):
    """All things that come of one made of tuples if one part of it is another item."""
    for item in items:
        yield item
    if isinstance(thing, tuple):
        for at, inner in enumerate(thing):
            for other in changed_in_tuples(inner, items):
                yield changed(thing, at, other)


class Plans(unittest.TestCase):
    def check(self, book, group):
        """Looks at a plan or a doubt by its words; whether there is a plan is returned."""
        one, other = plan(book, group), doubt(book, group)
        self.assertNotEqual(one is None, other is None, (book.windows, group))
        if other is None:
            self.assertTrue(is_plan_form(book, group, one))
            self.assertTrue(is_good_plan(book, group, one), (book.windows, group, one))
            self.assertIs(is_plan(book, group, one), True)
            self.assertIs(is_doubt(book, group, one), False)
        else:
            self.assertTrue(is_doubt_form(book, group, other))
            self.assertTrue(is_good_doubt(book, group, other), (book.windows, group, other))
            self.assertIs(is_doubt(book, group, other), True)
            self.assertIs(is_plan(book, group, other), False)
        return other is None

    def test_the_tenth_fact(self):
        found = {}
        for book, group in books_with_groups(191, 600):
            has_one = self.check(book, group)
            self.assertIs(has_one, has_plan(book, (), group, served_lots(book, group)), (book.windows, group))
            found[has_one] = True
        self.assertEqual(len(found), 2)

    def test_late_hours(self):
        found = {}
        rnd = random.Random(192)
        for _ in range(25):
            found[self.check(Book(random_windows(rnd, 3, 8)), ALL)] = True
            book = Book(tuple((rnd.randint(0, 3), rnd.randint(5, 8)) for _ in range(3)))
            found[self.check(book, ALL)] = True
        self.assertEqual(len(found), 2)
        self.check(Book(((0, 8),) * 3), ALL)
        self.check(joined(SMALL, SMALL), (1, 3, 5))

    def test_groups_by_their_own_numbers(self):
        book = joined(Book(((0, 8), (3, 3))), SMALL)
        self.assertIs(self.check(book, (2, 3, 4)), False)
        self.assertEqual(sorted(doubt(book, (2, 3, 4))), [2, 3, 4])
        self.assertIs(self.check(joined(Book(((8, 8),)), HELPED), (1, 2, 3)), True)
        self.assertIs(self.check(great_book_of_few_hours(), (3, 41, 79)), True)

    def test_one_work(self):
        for windows in [((0, 0),), ((3, 3),), ((0, 8),)]:
            book = Book(windows)
            many = len(lengths(book, 0))
            self.assertEqual(plan(book, (0,)), (0, ((),) * many))
            self.assertIsNone(doubt(book, (0,)))
            self.assertIs(is_plan(book, (0,), (0, ((),) * many)), True)
            for thing in [(0, ((),) * (many - 1)), (0, ((),) * (many + 1)), (0, [()] * many), (1, ((),) * many), (), (0,),
                          (0, ()), (False, ((),) * many), (0, ((),) * (many - 1) + ([],)), {0: (0, {})}]:
                self.assertIs(is_plan(book, (0,), thing), False, thing)
            for item in range(-1, many + 1):
                self.assertIs(is_doubt(book, (0,), {0: (item, {})}), False)

    def test_all_plans(self):
        found = {}
        for book, group in books_with_groups(193, 120, 3):
            if len(group) == 3 and max(len(lengths(book, work)) for work in group) > 2:
                continue
            for one in all_plans(book, group):
                wanted = is_good_plan(book, group, one)
                self.assertIs(is_plan(book, group, one), wanted)
                found[len(group), wanted] = True
        self.assertTrue(set(found) >= {(2, True), (2, False), (3, True), (3, False)})

    def test_random_plans(self):
        rnd = random.Random(194)
        found = {}
        for book, group in books_with_groups(194, 200):
            for _ in range(3):
                one = random_plan(rnd, book, group)
                wanted = is_good_plan(book, group, one)
                self.assertIs(is_plan(book, group, one), wanted)
                found[wanted] = True
        self.assertEqual(len(found), 2)

    def test_plans_with_one_thing_changed(self):
        book = Book(((0, 2), (1, 2), (1, 3)))
        one = plan(book, ALL)
        items = [(), [], None, True, False, 0, 1, 2, 3, -1, "0", (0,), ((),), (0, ()), (0, ((), ())), (1, ((), ())),
                 (2, ((), (), ())), [0, ((), ())], (0, [(), ()]), {}, {0: (0, {})}, one]
        many = {}
        for thing in changed_in_tuples(one, items):
            flags = repr(thing).count("True") + repr(thing).count("False")
            wanted = not flags and is_plan_form(book, ALL, thing) and is_good_plan(book, ALL, thing)
            self.assertIs(is_plan(book, ALL, thing), wanted, thing)
            many[wanted] = many.get(wanted, 0) + 1
        self.assertEqual(len(many), 2)

    def test_other_things(self):
        for thing in STRANGE + [deep(kind) for kind in (tuple, list, dict)]:
            for book in [SMALL, HELPED]:
                self.assertIs(is_plan(book, ALL, thing), False)
                self.assertIs(is_plan(book, ALL, (thing, (thing,) * 4)), False)
                self.assertIs(is_plan(book, ALL, (0, (thing,) * len(lengths(book, 0)))), False)
                self.assertIs(is_plan(book, (0, 1), (0, thing)), False)


def great_book_of_few_hours():
    """A book of eighty works with early hours, returned by joined."""
    forty = Book(tuple((at % 7, at % 7 + 1) for at in range(40)))
    return joined(forty, forty)


class Doubts(unittest.TestCase):
    def test_all_doubts(self):
        found = {}
        for book, group in books_with_groups(195, 150, 3):
            if len(group) == 2 and max(len(lengths(book, work)) for work in group) <= 3:
                for one in all_doubts(book, group):
                    self.assertIs(is_doubt(book, group, one), is_good_doubt(book, group, one))
        for windows in [((0, 1), (0, 1), (1, 1)), ((0, 2), (1, 1), (1, 1)), ((0, 3), (1, 2), (2, 2))]:
            book = Book(windows)
            rnd = random.Random(195)
            for _ in range(400):
                one = random_doubt(rnd, book, ALL)
                wanted = is_good_doubt(book, ALL, one)
                self.assertIs(is_doubt(book, ALL, one), wanted)
                found[wanted] = True
        self.assertIn(False, found)

    def test_doubts_with_lengths_changed(self):
        found = {}
        rnd = random.Random(196)
        for book in [SMALL, Book(((0, 5), (1, 3), (2, 4)))]:
            right = doubt(book, ALL)
            for first in permutations(ALL):
                for item in range(-1, 9):
                    one = with_told(right, first[:rnd.choice([1, 2, 3])], item)
                    wanted = is_doubt_form(book, ALL, one) and is_good_doubt(book, ALL, one)
                    self.assertIs(is_doubt(book, ALL, one), wanted)
                    found[wanted] = True
        self.assertEqual(len(found), 2)

    def test_doubts_with_one_thing_changed(self):
        right = doubt(SMALL, ALL)
        self.assertIs(is_doubt(SMALL, ALL, right), True)
        for row in [(0,), (2, 1), (1, 2, 0)]:
            length, inner = pair_at(right, row)
            things = [None, [length, inner], (length,), (length, inner, 0), (inner, length), (str(length), inner),
                      (length, None), (length, ()), (length, {7: (0, {})}), (length, [inner]), ((length,), inner),
                      (True, inner), (False, inner), (-1, inner), (9, inner), (10 ** 39, inner), (length, (inner,)), {}]
            for thing in things + STRANGE + [deep(kind, 36) for kind in (tuple, list, dict)]:
                self.assertIs(is_doubt(SMALL, ALL, with_pair(right, row, thing)), False, thing)
            if inner:
                for fewer in [{work: inner[work] for work in list(inner)[1:]}, {**inner, row[0]: (0, {})},
                              {**inner, 3: (0, {})}, {**inner, "0": (0, {})}, list(inner.items())]:
                    self.assertIs(is_doubt(SMALL, ALL, with_pair(right, row, (length, fewer))), False)
        for thing in [{}, {0: right[0]}, {**right, 3: (0, {})}, {**right, (0,): (0, {})}, [right], (right,),
                      tuple(right.items()), {0: right[0], 1: right[1], "2": right[2]}, right[0], (0, right)]:
            self.assertIs(is_doubt(SMALL, ALL, thing), False)

    def test_lots_that_no_row_serves_are_no_doubts(self):
        # Each row comes to a lot that it does not serve, but no other row does, either.
        book = Book(((0, 3), (0, 3)))
        one = {0: (3, {1: (3, {})}), 1: (3, {0: (3, {})})}
        self.assertTrue(is_doubt_form(book, (0, 1), one))
        self.assertIs(is_doubt(book, (0, 1), one), False)
        self.assertIs(is_plan(book, (0, 1), (1, ((0, ((),) * 4),) * 4)), True)

    def test_other_things(self):
        for thing in STRANGE + [deep(kind) for kind in (tuple, list, dict)]:
            for group in [(0,), (0, 1), ALL]:
                self.assertIs(is_doubt(SMALL, group, thing), False)
            self.assertIs(is_doubt(SMALL, ALL, {0: thing, 1: thing, 2: thing}), False)
            self.assertIs(is_doubt(SMALL, ALL, {0: (0, thing), 1: (0, thing), 2: (0, thing)}), False)

    def test_each_dict_is_new(self):
        one, other = doubt(SMALL, ALL), doubt(SMALL, ALL)
        self.assertEqual(one, other)
        one[0][1].clear()
        one.clear()
        self.assertEqual(doubt(SMALL, ALL), other)


def pair_at(thing, row):
    """The pair that a doubt has for the last work of a row behind the others."""
    for work in row[:-1]:
        thing = thing[work][1]
    return thing[row[-1]]


def with_pair(thing, row, pair):
    """A doubt with another pair there."""
    if len(row) == 1:
        return {**thing, row[0]: pair}
    length, inner = thing[row[0]]
    return {**thing, row[0]: (length, with_pair(inner, row[1:], pair))}


def with_told(thing, row, item):
    """A doubt with another length there."""
    return with_pair(thing, row, (item, pair_at(thing, row)[1]))


class Groups(unittest.TestCase):
    def test_against_plans_and_steady_orders(self):
        found = {}
        for book in small_books(197, 300, 6, 5):
            if max(last for first, last in book.windows) > 8:
                continue
            groups = [group for size in (1, 2, 3) for group in combinations(range(len(book.windows)), size)]
            none = sorted(group for group in groups if plan(book, group) is None)
            shaky = [group for group in groups if steady(part(book, group)) is None]
            self.assertEqual(lost(book), none)
            self.assertEqual(helped(book), sorted(group for group in shaky if group not in none))
            self.assertTrue(set(none) <= set(shaky))
            found[bool(none), bool(set(shaky) - set(none))] = True
        self.assertEqual(len(found), 4)

    def test_against_all_lots(self):
        for book in small_books(198, 60, 4, 4):
            if max(last for first, last in book.windows) > 8:
                continue
            groups = sorted(group for size in (1, 2, 3) for group in combinations(range(len(book.windows)), size))
            self.assertEqual(lost(book), [group for group in groups
                                          if not has_plan(book, (), group, served_lots(book, group))])

    def test_a_group_that_is_helped(self):
        self.assertIsNone(steady(HELPED))
        self.assertIsNotNone(plan(HELPED, ALL))
        self.assertEqual(helped(HELPED), [ALL])
        self.assertEqual(lost(HELPED), [])
        self.assertEqual(helped(SMALL), [])
        self.assertEqual(lost(SMALL), [ALL])

    def test_six_works(self):
        book = joined(joined(Book(((8, 8),)), SMALL), Book(((0, 0), (0, 0))))
        self.assertEqual(lost(book), [(1, 2, 3)])
        self.assertEqual(helped(Book(((0, 8),) * 6)), [])
        self.assertEqual(lost(Book(((0, 8),) * 6)), [])
        book = joined(HELPED, joined(Book(((8, 8),)), Book(((0, 0), (8, 8)))))
        self.assertIn(ALL, helped(book))
        self.assertEqual(helped(book), sorted(helped(book)))

    def test_groups_ascend_as_tuples_do(self):
        book = Book(((3, 3), (0, 4), (1, 4), (0, 3), (0, 2), (1, 3)))
        told = lost(book) + helped(book)
        self.assertTrue(told)
        self.assertEqual(lost(book), sorted(lost(book)))
        self.assertEqual(helped(book), sorted(helped(book)))


class Wrong(unittest.TestCase):
    def test_no_group(self):
        for group in NO_GROUPS + STRANGE:
            for book in [SMALL, W]:
                raised(self, NoGroup, plan, book, group)
                raised(self, NoGroup, doubt, book, group)
                for thing in [(), {}, None]:
                    raised(self, NoGroup, is_plan, book, group, thing)
                    raised(self, NoGroup, is_doubt, book, group, thing)

    def test_four_works_of_a_group(self):
        for book in [joined(SMALL, SMALL), joined(V, V), great_book(1), great_book(2)]:
            for group in [(0, 1, 2, 3), (0, 1, 2, 3, 4)]:
                self.assertEqual(raised(self, TooMany, plan, book, group).most, 3)
                self.assertEqual(raised(self, TooMany, doubt, book, group).most, 3)
                for thing in [(), {}] + STRANGE:
                    self.assertEqual(raised(self, TooMany, is_plan, book, group, thing).most, 3)
                    self.assertEqual(raised(self, TooMany, is_doubt, book, group, thing).most, 3)

    def test_hour_nine(self):
        for book in [shifted(SMALL, 2), W, joined(SMALL, Book(((0, 9),))), great_book(1), shifted(SMALL, 10 ** 39)]:
            for group in [(0,), (1, 2), ALL]:
                self.assertEqual(raised(self, TooLate, plan, book, group).most, 8)
                self.assertEqual(raised(self, TooLate, doubt, book, group).most, 8)
                for thing in [(), {}] + STRANGE:
                    self.assertEqual(raised(self, TooLate, is_plan, book, group, thing).most, 8)
                    self.assertEqual(raised(self, TooLate, is_doubt, book, group, thing).most, 8)

    def test_helped_and_lost(self):
        for call in [helped, lost]:
            for book in [Book(((0, 8),) * 7), Book(((0, 9),) * 7), great_book(1), great_book(2)]:
                self.assertEqual(raised(self, TooMany, call, book).most, 6)
            for book in [Book(((0, 9),)), Book(((0, 0),) * 5 + ((9, 9),)), shifted(SMALL, 1 + 1)]:
                self.assertEqual(raised(self, TooLate, call, book).most, 8)
            self.assertEqual(call(Book(((8, 8),) * 6)), [])
