"""17.1 to 17.3: lengths within bounds, routes and rounds."""

import random
import unittest
from itertools import product

from bymiddles.books import Book, joined, shifted
from bymiddles.bounds import (filled_within, is_bounds, is_filled_within, is_round_below, is_route, keeps, most_within,
                              round_below, route)
from bymiddles.errors import NoBounds, NoLot, NoRow
from bymiddles.holding import most
from tests.plain import (MILLION, NO_BOUNDS, STRANGE, U, W, changed, deep, great_book, group_there, near_windows,
                         plain_serves, raised, random_bounds, random_row, random_windows, small_books, small_lots)

ROW = (0, 1, 2)
FREE = ((0, 9), (0, 9), (0, 9))
NARROW = ((1, 2), (1, 1), (0, 2))
TOO_LONG = ((4, 9), (2, 9), (2, 9))
NO_ROWS = [(), [0, 1], (0, 0), (0, 3), (0, True), (False,), (0, 1, 2, 0), ((0, 1),)]


def samples(seed, many, works=4, top=7):
    """Books with a row of one work or more, and bounds."""
    rnd = random.Random(seed)
    for book in small_books(seed, many, works, top):
        row = random_row(rnd, range(len(book.windows)))
        if rnd.random() < 0.6:
            row = tuple(sorted(row, key=lambda work: sum(book.windows[work])))
        row = row[:rnd.randint(1, len(row))]
        yield book, row, random_bounds(rnd, book.windows)


def right_lots(book, row, bounds):
    """All lots of just these works that keep the bounds and that the row serves."""
    lots = [lot for lot in small_lots(book.windows) if group_there(lot) == tuple(sorted(row))]
    lots = [lot for lot in lots if all(bounds[work][0] <= lot[work] <= bounds[work][1] for work in row)]
    return [lot for lot in lots if plain_serves(book.windows, row, lot)]


def total(lot):
    """The sum of the lengths."""
    return sum(item for item in lot if item is not None)


def plain_legs(works):
    """All legs of a row of so many works with the gaps from which and to which they lead."""
    found = [(("over", a, b), a, b + 1) for a in range(works) for b in range(a, works)]
    found += [(("forth", a), a, a + 1) for a in range(works)]
    return found + [(("back", a), a + 1, a) for a in range(works)]


def plain_cost(book, row, bounds, leg):
    """What a leg costs."""
    if leg[0] == "over":
        return book.windows[row[leg[2]]][1] - book.windows[row[leg[1]]][0]
    return bounds[row[leg[1]]][1] if leg[0] == "forth" else -bounds[row[leg[1]]][0]


def plain_goal(works, legs, start):
    """The gap to which legs lead from a gap, None if they do not hang together."""
    table = {leg: (begin, end) for leg, begin, end in plain_legs(works)}
    for leg in legs:
        if table[leg][0] != start:
            return None
        start = table[leg][1]
    return start


def least_costs(book, row, bounds):
    """The least cost of a way from gap 0 to each gap; None if some round costs less than 0."""
    costs = {0: 0}
    for _ in range(len(row) + 2):
        before = dict(costs)
        for leg, begin, end in plain_legs(len(row)):
            if begin in costs:
                way = costs[begin] + plain_cost(book, row, bounds, leg)
                costs[end] = min(way, costs.get(end, way))
        if costs == before:
            return costs
    return None


class Bounds(unittest.TestCase):
    def test_right_ones(self):
        for bounds in [FREE, NARROW, TOO_LONG, ((0, 0),) * 3, ((MILLION, MILLION),) * 3, ((0, MILLION),) * 3,
                       ((5, 5), (0, 1), (99, 100))]:
            self.assertIs(is_bounds(W, bounds), True)
        self.assertIs(is_bounds(great_book(2), ((0, 9),) * 80), True)
        self.assertIs(is_bounds(Book(((3, 4),)), ((0, 0),)), True)

    def test_wrong_ones(self):
        for thing in NO_BOUNDS + STRANGE + [deep(kind) for kind in (tuple, list, dict)]:
            self.assertIs(is_bounds(W, thing), False, thing)
            self.assertIs(is_bounds(W, ((0, 9), (0, 9), thing)), thing in [(0, 0), (40, 41)], thing)
            self.assertIs(is_bounds(W, ((0, 9), (0, 9), (0, thing))), False, thing)
            self.assertIs(is_bounds(W, ((0, 9), (thing, 9), (0, 9))), False, thing)

    def test_one_beyond(self):
        for at in range(3):
            self.assertIs(is_bounds(W, changed(FREE, at, (0, MILLION))), True)
            self.assertIs(is_bounds(W, changed(FREE, at, (MILLION, MILLION))), True)
            for pair in [(0, MILLION + 1), (-1, 0), (-1, -1), (1, 0), (MILLION, MILLION - 1), (0, 10 ** 39)]:
                self.assertIs(is_bounds(W, changed(FREE, at, pair)), False)

    def test_keeps(self):
        bounds = ((1, 3), (0, 0), (5, MILLION))
        for lot in product([None, 0, 1, 2, 3, 4], [None, 0, 1], [None, 4, 5, 6, MILLION, MILLION + 1]):
            wanted = lot[0] in (None, 1, 2, 3) and lot[1] in (None, 0) and lot[2] in (None, 5, 6, MILLION)
            self.assertIs(keeps(W, bounds, lot), wanted, lot)

    def test_keeps_errors(self):
        no_lots = [(0, 0), [0, 0, 0], (0, 0, 0, 0), (0, -1, 0), (0, True, 0), (0, "0", 0), (0, (0,), 0)] + STRANGE
        for bounds in NO_BOUNDS + STRANGE:
            raised(self, NoBounds, keeps, W, bounds, (0, 0, 0))
            raised(self, NoBounds, keeps, W, bounds, None)
        for lot in no_lots:
            raised(self, NoLot, keeps, W, FREE, lot)


class Most(unittest.TestCase):
    def test_against_all_lots(self):
        found = {}
        for book, row, bounds in samples(171, 600):
            lots = right_lots(book, row, bounds)
            best = max([total(lot) for lot in lots], default=None)
            self.assertEqual(most_within(book, row, bounds), best, (book.windows, row, bounds))
            found[None if best is None else best < most(book, row)] = True
            if best is None:
                self.assertIsNone(filled_within(book, row, bounds))
            else:
                self.assertIn(filled_within(book, row, bounds), [lot for lot in lots if total(lot) == best])
            for lot in random.Random(1).sample(small_lots(book.windows), min(len(small_lots(book.windows)), 40)) + lots:
                self.assertIs(is_filled_within(book, row, bounds, lot), lot in lots and total(lot) == best)
        self.assertEqual(len(found), 3)

    def test_examples(self):
        self.assertIsNone(most_within(W, ROW, TOO_LONG))
        self.assertIsNone(filled_within(W, ROW, TOO_LONG))
        self.assertEqual(most_within(U, (1, 0), ((3, 9), (2, 9))), 6)
        self.assertEqual(most_within(W, ROW, NARROW), 5)
        self.assertEqual(filled_within(W, ROW, NARROW), (2, 1, 2))
        self.assertEqual(most_within(W, (2,), NARROW), 2)
        self.assertEqual(filled_within(W, (2,), NARROW), (None, None, 2))
        self.assertEqual(most_within(W, (2,), ((0, 0), (9, 9), (6, 9))), None)

    def test_bounds_that_let_all(self):
        for book, row, _ in samples(172, 150, 5, 40):
            for longest in [40, MILLION]:
                bounds = ((0, longest),) * len(book.windows)
                self.assertEqual(most_within(book, row, bounds), most(book, row))

    def test_bounds_at_the_edge_of_what_is_served(self):
        for book, row, _ in samples(173, 150, 5, 20):
            lot = filled_within(book, row, ((0, 40),) * len(book.windows))
            if lot is None:
                continue
            exact = tuple((item or 0, item or 0) for item in lot)
            self.assertEqual(filled_within(book, row, exact), lot)
            self.assertIs(is_filled_within(book, row, exact, lot), True)
            for work in row:
                above = changed(exact, work, (lot[work] + 1, lot[work] + 1))
                longer = changed(lot, work, lot[work] + 1)
                self.assertEqual(most_within(book, row, above) is not None, plain_serves(book.windows, row, longer))

    def test_lots_with_one_length_changed(self):
        lot = filled_within(W, ROW, FREE)
        self.assertIs(is_filled_within(W, ROW, FREE, lot), True)
        for at in range(3):
            for item in [lot[at] + 1, lot[at] - 1, None, True, False, str(lot[at]), [lot[at]], 99]:
                self.assertIs(is_filled_within(W, ROW, FREE, changed(lot, at, item)), False)
        for thing in STRANGE + [list(lot), lot[:2], lot + (0,), (lot,), deep(tuple), deep(list), deep(dict)]:
            self.assertIs(is_filled_within(W, ROW, FREE, thing), False)
        # Of the greatest sum, but one of them is beyond its bounds.
        self.assertIs(is_filled_within(W, ROW, ((0, 4), (0, 9), (0, 9)), (4, 1, 4)), True)
        self.assertIs(is_filled_within(W, ROW, ((0, 4), (0, 9), (0, 9)), (5, 0, 4)), False)
        self.assertIs(is_filled_within(W, (0,), FREE, (9, None, None)), True)
        self.assertIs(is_filled_within(W, (0,), FREE, (9, 0, None)), False)

    def test_rows_that_serve_no_lot(self):
        for thing in [(4, 2, 2), (5, 0, 4), (None,) * 3, None] + STRANGE:
            self.assertIs(is_filled_within(W, ROW, TOO_LONG, thing), False)


class Routes(unittest.TestCase):
    def check(self, book, row, bounds):
        """Looks at the route or the round of a row by their words; which of them there is is returned."""
        way, rounded = route(book, row, bounds), round_below(book, row, bounds)
        best = most_within(book, row, bounds)
        self.assertNotEqual(way is None, rounded is None)
        self.assertEqual(way is None, best is None)
        legs = rounded if way is None else way
        self.assertIsInstance(legs, tuple)
        cost = sum(plain_cost(book, row, bounds, leg) for leg in legs)
        start = 0
        if way is None:
            self.assertTrue(legs)
            start = [begin for leg, begin, end in plain_legs(len(row)) if leg == legs[0]][0]
            self.assertLess(cost, 0)
        else:
            self.assertEqual(cost, best)
        self.assertEqual(plain_goal(len(row), legs, start), start if way is None else len(row))
        self.assertIs(is_route(book, row, bounds, legs), way is not None)
        self.assertIs(is_round_below(book, row, bounds, legs), way is None)
        return way is None

    def test_the_ninth_fact(self):
        found = {}
        for book, row, bounds in samples(174, 500, 5, 12):
            costs = least_costs(book, row, bounds)
            found[self.check(book, row, bounds)] = True
            best = most_within(book, row, bounds)
            self.assertEqual(best, None if costs is None else costs[len(row)], (book.windows, row, bounds))
        self.assertEqual(len(found), 2)

    def test_all_short_ways(self):
        for book, row, bounds in samples(175, 40, 2, 5):
            legs = [leg for leg, begin, end in plain_legs(len(row))]
            best = most_within(book, row, bounds)
            for size in range(5 if len(row) == 1 else 4):
                for way in product(legs, repeat=size):
                    cost = sum(plain_cost(book, row, bounds, leg) for leg in way)
                    wanted = plain_goal(len(row), way, 0) == len(row) and best is not None and cost == best
                    self.assertIs(is_route(book, row, bounds, way), wanted)
                    begins = [begin for leg, begin, end in plain_legs(len(row)) if way and leg == way[0]]
                    wanted = bool(way) and plain_goal(len(row), way, begins[0]) == begins[0] and cost < 0
                    self.assertIs(is_round_below(book, row, bounds, way), wanted)

    def test_rows_of_forty_works(self):
        rnd = random.Random(176)
        found = {}
        for at in range(40):
            made = near_windows if at % 3 == 0 else random_windows
            book = Book(made(rnd, 40, 2000))
            row = tuple(sorted(range(40), key=lambda work: book.windows[work][at % 2]))
            bounds = tuple((rnd.randint(0, at % 4 * 3), rnd.randint(9, 60)) for _ in row)
            found[self.check(book, row, bounds)] = True
        self.assertEqual(len(found), 2)
        book, order = great_book(1), tuple(range(40))
        self.assertIs(self.check(book, order, ((0, MILLION),) * 40), False)
        self.assertEqual(most_within(book, order, ((0, MILLION),) * 40), 44)
        self.assertEqual(most_within(book, order, ((1, 1),) * 40), 40)
        self.assertIs(self.check(book, order, ((1, 1),) * 40), False)
        self.assertIs(self.check(book, order, ((2, 2),) * 40), True)
        self.assertIs(self.check(great_book(3), tuple(range(120)), ((0, 2),) * 120), False)
        self.assertIs(self.check(great_book(3), tuple(range(120))[::-1], ((0, 2),) * 120), True)

    def test_great_hours(self):
        book = joined(shifted(U, 10 ** 39), shifted(W, 10 ** 20))
        self.assertIs(self.check(book, (2, 3, 4, 1, 0), ((0, 3), (1, 9)) + FREE), False)
        self.assertIs(self.check(book, (0, 2), ((0, 3), (1, 9)) + FREE), True)

    def test_false_of_all_where_there_is_none(self):
        rounded = round_below(W, ROW, TOO_LONG)
        for thing in [(("over", 0, 2),), (("forth", 0), ("forth", 1), ("forth", 2)), (), None, rounded] + STRANGE:
            self.assertIs(is_route(W, ROW, TOO_LONG, thing), False)
        way = route(W, ROW, FREE)
        for thing in [(("over", 0, 2), ("back", 2), ("back", 1), ("back", 0)), (("forth", 0), ("back", 0)), (), way]:
            self.assertIs(is_round_below(W, ROW, FREE, thing), False)

    def test_routes_that_do_not_hang_together(self):
        best = most_within(W, ROW, NARROW)
        right = (("forth", 0), ("forth", 1), ("forth", 2))
        self.assertEqual(best, 5)
        self.assertIs(is_route(W, ROW, NARROW, right), True)
        # The work in the middle has just one length, so that to go forth and back over it costs nothing.
        self.assertIs(is_route(W, ROW, NARROW, right[:2] + (("back", 1), ("forth", 1), ("forth", 2))), True)
        self.assertIs(is_route(W, ROW, NARROW, right[:2] + (("back", 1),) * 2 + (("forth", 1),) * 2 + right[2:]), False)
        for thing in [right[::-1], right[1:], right[:2], right + right[-1:], right[:1] + right, (right[0], right[2]),
                      list(right), (list(right[0]),) + right[1:], (right,), right + (("back", 2),), right[:1] * 3,
                      (("forth", 0), ("forth", 2), ("forth", 1)), right + (None,), right + ((),), (), right[0]]:
            self.assertIs(is_route(W, ROW, NARROW, thing), False, thing)
        wide = (("over", 0, 2),)
        self.assertEqual(most_within(W, ROW, FREE), 9)
        self.assertIs(is_route(W, ROW, FREE, wide), True)
        for at, leg in enumerate(right):
            for other in [("Forth", at), ("over", at), ("forth", at, at), ("forth",), ("forth", at + 3),
                          ("forth", -1), ("forth", bool(at)), ["forth", at], "forth", ("", at), (at, "forth"),
                          (b"forth", at), ("forth", str(at)), ("forth", (at,)), ("forth", None), ("back", at), None]:
                self.assertIs(is_route(W, ROW, NARROW, changed(right, at, other)), False, (at, other))

    def test_overs_judged(self):
        self.assertIs(is_route(W, ROW, FREE, (("over", 0, 2),)), True)
        for leg in [("over", 0, 1), ("over", 1, 2), ("over", 2, 0), ("over", 0, 3), ("over", -1, 2), ("over", 0),
                    ("over", 0, 2, 2), ("over", False, 2), ("over", 0, "2"), ("forth", 0, 2), ("back", 0, 2),
                    ("Over", 0, 2), ["over", 0, 2], ("over", 0, None), ("over", 0, (2,)), ("over",), ("over", 10 ** 39, 2)]:
            self.assertIs(is_route(W, ROW, FREE, (leg,)), False, leg)
        self.assertIs(is_route(U, (0, 1), ((0, 9), (0, 9)), (("over", 0, True),)), False)
        self.assertIs(is_route(U, (0, 1), ((0, 9), (0, 9)), (("over", 0, 1),)), True)

    def test_rounds_judged(self):
        right = (("over", 1, 2), ("back", 2), ("back", 1))
        bounds = ((0, 9), (4, 9), (4, 9))
        self.assertEqual(sum(plain_cost(W, ROW, bounds, leg) for leg in right), -1)
        for turned in [right, right[1:] + right[:1], right[2:] + right[:2], right * 2, right * 1000]:
            self.assertIs(is_round_below(W, ROW, bounds, turned), True)
        self.assertIs(is_round_below(W, ROW, bounds, (("forth", 0),) + right + (("back", 0),)), False)
        self.assertIs(is_round_below(W, ROW, ((9, 9), (4, 9), (4, 9)), (("forth", 0),) + right + (("back", 0),)), True)
        for thing in [right[::-1], right[:2], right[1:], list(right), right + right[1:], (), [], right[:1], right[1:2],
                      (("over", 1, 2), ("back", 1), ("back", 2)), (("over", 1, 1), ("back", 2), ("back", 1)),
                      (("over", 1, 2), ("forth", 2), ("back", 1)), right + (None,), (None,) + right, (right,),
                      (("over", 1, 2), ("back", 3), ("back", 1)), (("over", True, 2), ("back", 2), ("back", 1)),
                      (("over", 1, 2), ("back", 2), ("back", True)), (["over", 1, 2], ("back", 2), ("back", 1))]:
            self.assertIs(is_round_below(W, ROW, bounds, thing), False, thing)
        # Just 0 is not less than 0.
        self.assertIs(is_round_below(W, ROW, ((0, 9), (3, 9), (4, 9)), right), False)
        self.assertIsNone(round_below(W, (1, 2), ((0, 9), (3, 9), (4, 9))))
        self.assertIsNotNone(round_below(W, (1, 2), ((0, 9), (3, 9), (5, 9))))

    def test_legs_that_are_none(self):
        apart = Book(((0, 3), (5, 9)))
        self.assertIs(is_round_below(apart, (0, 1), ((0, 9), (0, 9)), (("over", 1, 0),)), False)
        self.assertIs(is_round_below(apart, (0, 1), ((4, 9), (0, 9)), (("over", 0, 0), ("back", 0))), True)
        for word in ["Back", "", "backs", "back ", b"back", "over", "forth", 0, None]:
            self.assertIs(is_round_below(apart, (0, 1), ((4, 9), (0, 9)), (("over", 0, 0), (word, 0))), False)
        touching = Book(((0, 3), (3, 9)))
        right = (("over", 0, 0), ("over", 1, 1))
        self.assertIs(is_route(touching, (0, 1), ((0, 9), (0, 9)), right), True)
        self.assertIs(is_route(touching, (0, 1), ((0, 9), (0, 9)), right[:1] + (("over", 1, 0),) + right[1:]), False)
        # Beyond the gaps of the row, and back.
        for beyond in [(("forth", 2), ("back", 2)), (("over", 2, 2), ("back", 2))]:
            self.assertIs(is_route(touching, (0, 1), ((0, 9), (0, 9)), right + beyond), False)
            self.assertIs(is_round_below(touching, (0, 1), ((0, 9), (9, 9)), beyond), False)
        for beyond in [(("back", -1), ("forth", -1)), (("back", -1), ("over", -1, -1))]:
            self.assertIs(is_route(touching, (0, 1), ((0, 9), (0, 0)), beyond + right), False)
            self.assertIs(is_route(touching, (0, 1), ((0, 9), (6, 6)), beyond + right), False)
            self.assertIs(is_round_below(touching, (0, 1), ((0, 9), (9, 9)), beyond), False)

    def test_other_things(self):
        for thing in STRANGE + [deep(kind) for kind in (tuple, list, dict)]:
            for judge, bounds in [(is_route, FREE), (is_round_below, TOO_LONG), (is_route, TOO_LONG)]:
                self.assertIs(judge(W, ROW, bounds, thing), False)
                self.assertIs(judge(W, ROW, bounds, (thing,)), False)
                self.assertIs(judge(W, ROW, bounds, (("over", 0, thing),)), False)
                self.assertIs(judge(W, ROW, bounds, ((thing, 0),)), False)

    def test_long_things(self):
        there_and_back = (("forth", 1), ("back", 1)) * 1500
        self.assertIs(is_route(W, ROW, NARROW, (("forth", 0),) + there_and_back + (("forth", 1), ("forth", 2))), True)
        self.assertIs(is_route(W, ROW, FREE, (("forth", 0),) + there_and_back + (("forth", 1), ("forth", 2))), False)
        self.assertIs(is_round_below(W, ROW, NARROW, there_and_back), False)
        for way in [(("over", 0, 2),) * 3000, (("forth",) + (0,) * 9000,)]:
            self.assertIs(is_route(W, ROW, FREE, way), False)
            self.assertIs(is_round_below(W, ROW, FREE, way), False)


class Wrong(unittest.TestCase):
    CALLS = [most_within, filled_within, route, round_below,
             lambda book, row, bounds: is_filled_within(book, row, bounds, (5, 0, 4)),
             lambda book, row, bounds: is_route(book, row, bounds, (("over", 0, 2),)),
             lambda book, row, bounds: is_round_below(book, row, bounds, None)]

    def test_no_row_ahead_of_no_bounds(self):
        for call in self.CALLS:
            for row in NO_ROWS + STRANGE:
                raised(self, NoRow, call, W, row, FREE)
                raised(self, NoRow, call, W, row, None)

    def test_no_bounds(self):
        for call in self.CALLS:
            for bounds in NO_BOUNDS + STRANGE:
                raised(self, NoBounds, call, W, ROW, bounds)
                raised(self, NoBounds, call, W, (1,), bounds)
