"""12.2: roofs."""

import random
import unittest

from bymiddles.bars import barred
from bymiddles.books import Book, joined, part, shifted
from bymiddles.errors import NoNumber, NoPrices, TooMany
from bymiddles.leaving import best_part
from bymiddles.roofs import is_roof, roof
from tests.plain import (NO_PRICES, STRANGE, U, V, W, deep, great_book, near_windows, raised, random_prices, random_row,
                         random_windows, small_books)

PRICES = (5, 1, 3)
TWO = joined(W, shifted(W, 50))
TWO_PRICES = PRICES + (9, 2, 4)
# Two groups of its works are barred, and they share two works.
CROSSED = Book(((0, 10), (2, 5), (4, 9), (1, 4)))
TWELVE = part(great_book(1), tuple(range(12)))
THIRTEEN = part(great_book(1), tuple(range(13)))


def plain_is_roof(groups, prices, bound, tree, kept=(), left=()):
    """Whether a tree of the right form is a roof, word for word."""
    if tree[0] == "split":
        work, one, other = tree[1:]
        return (work not in kept + left and plain_is_roof(groups, prices, bound, one, kept + (work,), left)
                and plain_is_roof(groups, prices, bound, other, kept, left + (work,)))
    worth = sum(price for work, price in enumerate(prices) if work not in left)
    seen = []
    for group in tree[1]:
        free = [work for work in group if work not in kept]
        if group not in groups or set(group) & set(left) or set(free) & set(seen):
            return False
        seen.extend(free)
        worth -= min([prices[work] for work in free], default=10 ** 9)
    return worth <= bound


def random_tree(rnd, groups, works, depth):
    """A tree of the right form, most of them no roofs."""
    if depth == 0 or rnd.random() < 0.3:
        return ("apart", tuple(rnd.choice(groups) for _ in range(rnd.randint(0, 2)) if groups))
    return ("split", rnd.choice(works), random_tree(rnd, groups, works, depth - 1),
            random_tree(rnd, groups, works, depth - 1))


def changes(tree):
    """Trees that differ from this one in one node."""
    if tree[0] == "apart":
        return [("apart", tree[1][:at] + tree[1][at + 1:]) for at in range(len(tree[1]))] + \
               [("apart", tree[1] + (group,)) for group in tree[1]]
    word, work, one, other = tree
    found = [(word, work, other, one), one, other]
    found += [(word, work, new, other) for new in changes(one)]
    return found + [(word, work, one, new) for new in changes(other)]


def count(tree):
    """How many nodes a tree has."""
    return 1 if tree[0] == "apart" else 1 + count(tree[2]) + count(tree[3])


class Roof(unittest.TestCase):
    def check(self, book, prices):
        """Looks at a roof by its words; the tree is returned."""
        told = roof(book, prices)
        price = best_part(book, prices)[0]
        self.assertIs(plain_is_roof(barred(book), prices, price, told), True, (book.windows, prices))
        for bound in [price, price + 1, price + 10 ** 39]:
            self.assertIs(is_roof(book, prices, bound, told), True)
        for bound in [price - 1, -1, -10 ** 39]:
            self.assertIs(is_roof(book, prices, bound, told), False)
        return told

    def test_one_for_the_price_and_for_no_lesser_bound(self):
        rnd = random.Random(141)
        sizes = {}
        for book in small_books(141, 250, 8, 30):
            sizes[count(self.check(book, random_prices(rnd, len(book.windows)))) > 1] = True
        self.assertEqual(len(sizes), 2)

    def test_books_with_a_one_order(self):
        for book in [U, V, Book(((3, 4),)), TWELVE]:
            prices = tuple(range(1, len(book.windows) + 1))
            self.assertEqual(self.check(book, prices), ("apart", ()))
            self.assertEqual(self.check(book, (0,) * len(prices)), ("apart", ()))

    def test_twelve_works(self):
        rnd = random.Random(142)
        for at in range(16):
            made = near_windows if at % 2 else random_windows
            book = Book(made(rnd, 12, rnd.choice([6, 30, 1000])))
            self.check(book, random_prices(rnd, 12))
            self.check(book, (1,) * 12)

    def test_books_far_apart_put_together(self):
        four = joined(TWO, shifted(TWO, 10 ** 20))
        told = self.check(four, (5, 1, 3) * 4)
        self.assertEqual(told[0], "apart")
        self.assertEqual(sorted(told[1]), [(0, 1, 2), (3, 4, 5), (6, 7, 8), (9, 10, 11)])
        self.check(joined(CROSSED, shifted(CROSSED, 30)), (3, 1, 4, 1, 5, 9, 2, 6))

    def test_what_is_returned_is_judged_whatever_its_size(self):
        rnd = random.Random(143)
        greatest = 0
        for _ in range(12):
            book = Book(near_windows(rnd, 12, 30))
            greatest = max(greatest, count(self.check(book, (1,) * 12)))
        self.assertGreater(greatest, 40)


class Judged(unittest.TestCase):
    def test_drawn_trees(self):
        rnd = random.Random(144)
        found = {}
        for _ in range(400):
            book = rnd.choice([W, TWO, CROSSED, V])
            prices = random_prices(rnd, len(book.windows))
            tree = random_tree(rnd, barred(book), range(len(book.windows)), rnd.randint(0, 3))
            for bound in [sum(prices), sum(prices) // 2, best_part(book, prices)[0]]:
                wanted = plain_is_roof(barred(book), prices, bound, tree)
                self.assertIs(is_roof(book, prices, bound, tree), wanted, (book.windows, prices, bound, tree))
                found[wanted, tree[0]] = True
        self.assertEqual(len(found), 4)

    def test_trees_changed_at_one_node(self):
        rnd = random.Random(145)
        found = {}
        for book in [W, TWO, CROSSED] + small_books(145, 40, 7, 30):
            prices = tuple(rnd.randint(0, 9) for _ in book.windows)
            price = best_part(book, prices)[0]
            trees = changes(roof(book, prices))
            for tree in rnd.sample(trees, min(20, len(trees))):
                wanted = plain_is_roof(barred(book), prices, price, tree)
                self.assertIs(is_roof(book, prices, price, tree), wanted, (book.windows, tree))
                found[wanted] = True
        self.assertEqual(len(found), 2)

    def test_groups_that_are_not_barred(self):
        self.assertIs(is_roof(W, PRICES, 8, ("apart", ((0, 1, 2),))), True)
        for group in [(0, 1), (0, 2), (0,), (), (0, 2, 1), (2, 1, 0), (0, 1, 2, 2), (0, 1, 3), [0, 1, 2], "012", None,
                      (False, 1, 2), (0, True, 2), (0, 1, "2"), (0, 1, [2]), (0, 1, {}), ((0, 1, 2),), 0]:
            self.assertIs(is_roof(W, PRICES, 99, ("apart", (group,))), False, group)
        self.assertIs(is_roof(CROSSED, (1,) * 4, 99, ("apart", ((0, 1, 2, 3),))), False)

    def test_groups_that_share_works(self):
        self.assertIn((0, 1, 2), barred(CROSSED))
        other = [group for group in barred(CROSSED) if group != (0, 1, 2)][0]
        shared = [work for work in other if work in (0, 1, 2)]
        self.assertEqual(len(shared), 2)
        both = ((0, 1, 2), other)
        self.assertIs(is_roof(CROSSED, (1,) * 4, 99, ("apart", both)), False)
        self.assertIs(is_roof(CROSSED, (1,) * 4, 99, ("apart", both[:1] * 2)), False)
        none = ("apart", ())
        # With the works that they share kept they may stand side by side: each takes a work of its own.
        tree = ("split", shared[0], ("split", shared[1], ("apart", both), none), none)
        self.assertIs(is_roof(CROSSED, (1,) * 4, 99, tree), True)
        self.assertIs(is_roof(CROSSED, (1,) * 4, 3, tree), True)
        self.assertIs(is_roof(CROSSED, (1,) * 4, 2, tree), False)
        one_kept = ("split", shared[0], ("apart", both), none)
        self.assertIs(is_roof(CROSSED, (1,) * 4, 99, one_kept), False)
        self.assertIs(is_roof(TWO, TWO_PRICES, 21, ("apart", ((0, 1, 2), (3, 4, 5)))), True)
        self.assertIs(is_roof(TWO, TWO_PRICES, 21, ("apart", ((3, 4, 5), (0, 1, 2)))), True)
        self.assertIs(is_roof(TWO, TWO_PRICES, 20, ("apart", ((3, 4, 5), (0, 1, 2)))), False)
        self.assertIs(is_roof(TWO, TWO_PRICES, 21, ("apart", ((0, 1, 2),))), False)

    def test_groups_with_a_work_that_is_left(self):
        group = ("apart", ((0, 1, 2),))
        none = ("apart", ())
        self.assertIs(is_roof(W, PRICES, 8, ("split", 1, group, none)), True)
        self.assertIs(is_roof(W, PRICES, 99, ("split", 1, group, group)), False)
        self.assertIs(is_roof(W, PRICES, 99, ("split", 1, none, group)), False)
        self.assertIs(is_roof(W, PRICES, 9, ("split", 1, none, none)), True)
        self.assertIs(is_roof(W, PRICES, 8, ("split", 1, none, none)), False)

    def test_all_works_of_a_group_kept(self):
        group, none = ("apart", ((0, 1, 2),)), ("apart", ())
        tree = ("split", 0, ("split", 1, ("split", 2, group, none), none), none)
        self.assertIs(is_roof(W, PRICES, 8, tree), True)
        self.assertIs(is_roof(W, PRICES, 7, tree), False)
        self.assertIs(is_roof(W, PRICES, 8, ("split", 0, ("split", 1, ("split", 2, none, none), none), none)), False)
        # Kept works count for no group, so that this one may even stand twice; the other one has to be right, too.
        for groups, wanted in [(((0, 1, 2),) * 2, True), (((0, 1, 2), (3, 4, 5)), True), (((0, 1, 2), (3, 4)), False),
                               (((0, 1, 2), (3, 4, 5), (3, 4, 5)), False)]:
            inner = ("split", 0, ("split", 1, ("split", 2, ("apart", groups), none), none), none)
            self.assertIs(is_roof(TWO, TWO_PRICES, 99, inner), wanted)
        all_kept = ("split", 2, ("apart", ((0, 1, 2),)), ("apart", ()))
        self.assertIs(is_roof(W, (9, 9, 0), 9, ("split", 0, ("split", 1, all_kept, none), none)), False)
        self.assertIs(is_roof(W, (9, 9, 0), 18, ("split", 0, ("split", 1, all_kept, none), none)), True)

    def test_works_split_twice_and_things_that_are_no_works(self):
        none = ("apart", ())
        self.assertIs(is_roof(W, PRICES, 9, none), True)
        self.assertIs(is_roof(W, PRICES, 9, ("split", 0, none, none)), True)
        self.assertIs(is_roof(W, PRICES, 9, ("split", 0, ("split", 1, none, none), ("split", 1, none, none))), True)
        for tree in [("split", 0, ("split", 0, none, none), none), ("split", 0, none, ("split", 0, none, none)),
                     ("split", 0, ("split", 1, none, ("split", 0, none, none)), none)]:
            self.assertIs(is_roof(W, PRICES, 99, tree), False)
        for work in [3, -1, True, False, None, "0", (0,), [0], 10 ** 39]:
            self.assertIs(is_roof(W, PRICES, 99, ("split", work, none, none)), False)

    def test_other_forms(self):
        none = ("apart", ())
        for thing in [list(none), ("apart", []), ("apart",), ("apart", (), ()), ("apart", ((0, 1, 2),), ()), (),
                      ("Apart", ()), ("split", ()), (b"apart", ()), ("", ()), (None, ()), ("apart", None), "apart",
                      ("apart", {}), ["split", 0, none, none], ("split", 0, none), ("split", 0, none, none, none),
                      ("split", 0, list(none), none), ("split", 0, none, None), ("apart", 0, none, none),
                      ("Split", 0, none, none), (b"split", 0, none, none), (("split",), 0, none, none),
                      ("split", none, none, 0), (0, "split", none, none), ((), "apart"), none + none]:
            self.assertIs(is_roof(W, PRICES, 99, thing), False, thing)

    def test_other_things(self):
        none = ("apart", ())
        for thing in STRANGE + [deep(kind) for kind in (tuple, list, dict)]:
            self.assertIs(is_roof(W, PRICES, 99, thing), False)
            if thing != ():
                self.assertIs(is_roof(W, PRICES, 99, ("apart", thing)), False)
            self.assertIs(is_roof(W, PRICES, 99, ("apart", (thing,))), False)
            self.assertIs(is_roof(W, PRICES, 99, (thing, ())), False)
            self.assertIs(is_roof(W, PRICES, 99, (thing, 0, none, none)), False)
            self.assertIs(is_roof(W, PRICES, 99, ("split", thing, none, none)), False)
            self.assertIs(is_roof(W, PRICES, 99, ("split", 0, none, thing)), False)

    def test_deep_trees(self):
        rnd = random.Random(146)
        for book, works in [(TWELVE, list(range(12))), (W, [0, 1, 2])]:
            tree = ("apart", ())
            for work in random_row(rnd, works):
                tree = ("split", work, tree, ("apart", ()))
            self.assertIs(is_roof(book, (1,) * len(works), 12, tree), True)
            for depth in range(26):
                tree = ("split", works[depth % len(works)], ("apart", ()), tree)
            self.assertIs(is_roof(book, (1,) * len(works), 12, tree), False)

    def test_bounds(self):
        none = ("apart", ())
        for bound, wanted in [(9, True), (10, True), (10 ** 39, True), (8, False), (0, False), (-1, False),
                              (-10 ** 39, False)]:
            self.assertIs(is_roof(W, PRICES, bound, none), wanted)
        self.assertIs(is_roof(W, (0, 0, 0), 0, none), True)
        self.assertIs(is_roof(W, (0, 0, 0), -1, none), False)


class Wrong(unittest.TestCase):
    def test_no_prices(self):
        for prices in NO_PRICES + STRANGE + [deep(kind) for kind in (tuple, list, dict)]:
            for book in [W, THIRTEEN]:
                raised(self, NoPrices, roof, book, prices)
                raised(self, NoPrices, is_roof, book, prices, 9, ("apart", ()))
                raised(self, NoPrices, is_roof, book, prices, None, None)

    def test_no_number(self):
        for bound in [thing for thing in STRANGE if type(thing) is not int] + [deep(list)]:
            raised(self, NoNumber, is_roof, W, PRICES, bound, ("apart", ()))
            raised(self, NoNumber, is_roof, THIRTEEN, (1,) * 13, bound, None)

    def test_thirteen_works(self):
        for book in [THIRTEEN, great_book(1), great_book(2)]:
            prices = (1,) * len(book.windows)
            self.assertEqual(raised(self, TooMany, roof, book, prices).most, 12)
            for thing in STRANGE + [("apart", ())]:
                self.assertEqual(raised(self, TooMany, is_roof, book, prices, 99, thing).most, 12)
