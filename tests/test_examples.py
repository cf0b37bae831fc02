"""The examples of the document."""

import unittest

from bymiddles.bars import bar, barred
from bymiddles.books import Book, middle, within
from bymiddles.bounds import most_within
from bymiddles.counting import many_lots, strongest
from bymiddles.holding import is_cover, most, most_of
from bymiddles.later import least_regret, notice
from bymiddles.leaving import best_part
from bymiddles.near import parting
from bymiddles.orders import all_orders, one_order, throws
from bymiddles.runs import broken, lateness, run
from bymiddles.serving import ends, room_any
from bymiddles.texts import book_text
from bymiddles.within import knot, one_within
from tests.plain import U, V, W


class Examples(unittest.TestCase):
    def test_e01(self):
        self.assertEqual(throws(W, (1, 0, 2)), [("back", 0, 2, 1), ("front", 0, 1, 2)])

    def test_e02(self):
        self.assertEqual(one_order(V), (0, 1, 2))
        self.assertEqual(all_orders(U), [(0, 1), (1, 0)])

    def test_e03(self):
        self.assertIsNone(one_order(W))
        self.assertEqual(bar(W)[0], (0, 1, 2))

    def test_e04(self):
        self.assertEqual(run(W, (0, 1, 2), (5, 0, 4)), ((0, 0, 5), (1, 5, 5), (2, 5, 9)))

    def test_e05(self):
        self.assertEqual(broken(W, (1, 0, 2), (5, 0, 4)), [(1, 2)])
        self.assertEqual(lateness(W, (1, 0, 2), (5, 0, 4)), 2)

    def test_e06(self):
        self.assertEqual(most(W, (0, 1, 2)), 9)
        self.assertIs(is_cover(W, (0, 1, 2), ((0, 2),)), True)

    def test_e07(self):
        self.assertEqual(most_of(W, (1, 2)), 7)

    def test_e08(self):
        self.assertEqual(least_regret(W), (2, (1, 0, 2)))

    def test_e09(self):
        self.assertEqual(ends(U, (3, 2)), {(): 0, (0,): 3, (1,): 6, (0, 1): 6})

    def test_e10(self):
        self.assertEqual(room_any(U, (3, 2), 0), 4)

    def test_e11(self):
        self.assertEqual(barred(W), [(0, 1, 2)])

    def test_e12(self):
        self.assertEqual(best_part(W, (5, 1, 3)), (8, (0, 2)))

    def test_e13(self):
        self.assertEqual(notice(W, (1, 0, 2)), 2)

    def test_e14(self):
        self.assertEqual(book_text(U), "work 0 10\nwork 4 6\n")

    def test_e15(self):
        self.assertEqual(middle(W, 1), 7)
        self.assertEqual(within(W, 0), (1, 2))

    def test_e16(self):
        book = Book(((0, 3), (0, 3), (1, 2), (2, 5), (3, 5)))
        self.assertEqual(knot(book, ((1, 1), (1, 1), (1, 2), (0, 2), (1, 1))), (0, 1, 2, 3, 4))

    def test_e17(self):
        self.assertIsNone(most_within(W, (0, 1, 2), ((4, 9), (2, 9), (2, 9))))
        self.assertEqual(most_within(U, (1, 0), ((3, 9), (2, 9))), 6)

    def test_e18(self):
        self.assertEqual(one_within(W, ((1, 3), (1, 3), (1, 3))), (1, 2, 0))

    def test_e19(self):
        self.assertEqual(many_lots(W, (1, 0, 2)), 216)
        self.assertEqual(strongest(W), (216, (1, 0, 2)))

    def test_e20(self):
        self.assertEqual(parting(W), ((0,), (1, 2)))
