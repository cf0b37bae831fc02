"""The examples of the document."""

import unittest

from bymiddles.books import middle, within
from bymiddles.runs import broken, lateness, run
from bymiddles.serving import ends, room_any
from tests.plain import U, W


class Examples(unittest.TestCase):
    def test_e04(self):
        self.assertEqual(run(W, (0, 1, 2), (5, 0, 4)), ((0, 0, 5), (1, 5, 5), (2, 5, 9)))

    def test_e05(self):
        self.assertEqual(broken(W, (1, 0, 2), (5, 0, 4)), [(1, 2)])
        self.assertEqual(lateness(W, (1, 0, 2), (5, 0, 4)), 2)

    def test_e09(self):
        self.assertEqual(ends(U, (3, 2)), {(): 0, (0,): 3, (1,): 6, (0, 1): 6})

    def test_e10(self):
        self.assertEqual(room_any(U, (3, 2), 0), 4)

    def test_e15(self):
        self.assertEqual(middle(W, 1), 7)
        self.assertEqual(within(W, 0), (1, 2))
