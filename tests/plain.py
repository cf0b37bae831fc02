"""Plain looks at small books, by the words of the document alone, and things of all kinds to be judged."""

import random
from itertools import permutations, product

from bymiddles.bench import Bench
from bymiddles.books import Book, joined, shifted
from bymiddles.desk import Desk
from bymiddles.errors import BadBook, TooMany

W = Book(((0, 10), (2, 5), (4, 9)))
V = Book(((0, 6), (3, 8), (5, 12)))
U = Book(((0, 10), (4, 6)))
MILLION = 10 ** 6


def deep(kind, depth=40):
    """A thing nested so deep."""
    thing = kind()
    for _ in range(depth - 1):
        thing = {"in": thing} if kind is dict else kind([thing])
    return thing


# None of these is a work, a row, a lot or a bar of W, or whatever else is asked for; (0, 0) is a lot of U.
STRANGE = [
    None, True, False, -1, -10 ** 39, 10 ** 39, "", "0", "middle", b"", b"\x00\x01\x02", bytearray(b"\x00"), [], [0],
    [0, 1, 2], [[0, 1]], {}, {0: 1}, {(0, 1): None}, {"a": [1]}, (True,), (False, 1), (0, True), (None,), ("0",),
    ("a", "b"), ((0,),), ((0, 1), (2, 1)), (0, 0), (-1,), (-1, -2), (0, -1), (40, 41), (10 ** 39,), ([],),
    ({},), (0, [1]), (0, (1, 2), None), range(3), range(0), slice(1), Ellipsis, NotImplemented, int, dict, len, deep,
    lambda: 0, object(), iter([]), memoryview(b"ab"), W, Book(((0, 0),)), BadBook(), TooMany(3), (W,), [W], {0: W},
    Bench(W, (0, 1, 2)), (Bench(W, (0, 1, 2)),), Desk(), {"desk": Desk()}, Book, Bench, Desk, BadBook, (Book, Desk),
    deep(tuple), deep(list), deep(dict), (0,) * 9999, [0] * 9999, tuple(range(9999)), "a" * 9999,
]

# None of these are prices for W.
NO_PRICES = [[5, 1, 3], (5, 1), (5, 1, 3, 0), (), (5, 1, -1), (5, 1, 100), (5, True, 3), (False, 1, 3), (5, 1, None),
             (5, 1, "3"), (5, 1, (3,)), (5, 1, 10 ** 39), {0: 5, 1: 1, 2: 3}, "513", ((5, 1, 3),)]

# None of these are bounds for W.
NO_BOUNDS = [
    (), ((0, 9),) * 2, ((0, 9),) * 4, [(0, 9)] * 3, ([0, 9],) * 3, ((0, 9), (0, 9), (9, 0)), ((0, 9), (0, 9), (0,)),
    ((0, 9), (0, 9), (0, 9, 9)), ((0, 9), (0, 9), ()), ((0, 9), (-1, 9), (0, 9)), ((0, MILLION + 1), (0, 9), (0, 9)),
    ((0, 9), (0, 9), (MILLION + 1, MILLION + 1)), ((False, 9), (0, 9), (0, 9)), ((0, True), (0, 9), (0, 9)),
    ((0, 9), (0, 9), (0, None)), ((0, 9), (0, 9), None), ((0, 9), (0, 9), 9), ((0, 9), (0, 9), "09"), (0, 9, 9),
    {0: (0, 9), 1: (0, 9), 2: (0, 9)},
]


def plain_serves(windows, row, lot):
    """Whether a row serves a lot."""
    return plain_late(windows, row, lot) is None or plain_late(windows, row, lot) <= 0


def plain_late(windows, row, lot):
    """The lateness of a row, None if nobody is there."""
    hour, late = 0, None
    for work in row:
        if lot[work] is None:
            continue
        hour = max(hour, windows[work][0]) + lot[work]
        behind = hour - windows[work][1]
        late = behind if late is None or behind > late else late
    return late


def group_there(lot):
    """The works that are there."""
    return tuple(work for work, item in enumerate(lot) if item is not None)


def small_lots(windows, absent=True):
    """All lots in which no work is longer than its window: no others are served."""
    first = [None] if absent else []
    return list(product(*[first + list(range(last - start + 1)) for start, last in windows]))


def plain_one_orders(windows):
    """All one orders, by a look at all orders and lots."""
    orders = list(permutations(range(len(windows))))
    right = {order: True for order in orders}
    for lot in small_lots(windows):
        served = [order for order in orders if plain_serves(windows, order, lot)]
        if served and len(served) < len(orders):
            kept = set(served)
            right = {order: right[order] and order in kept for order in orders}
    return [order for order in orders if right[order]]


def random_windows(rnd, works, top):
    """So many windows with hours up to top."""
    windows = []
    for _ in range(works):
        first = rnd.randint(0, top)
        windows.append((first, rnd.randint(first, top)))
    return tuple(windows)


def near_windows(rnd, works, top):
    """Windows with few unlike middles, many of them within one another."""
    windows = []
    for _ in range(works):
        total = top + rnd.choice([0, 0, 0, 1, 2])
        first = rnd.randint(0, total // 2)
        windows.append((first, total - first))
    return tuple(windows)


def small_books(seed, many, works, top):
    """Books of one to so many works, half of them with few unlike middles."""
    rnd = random.Random(seed)
    books = []
    for at in range(many):
        made = near_windows if at % 2 else random_windows
        books.append(Book(made(rnd, rnd.randint(1, works), rnd.randint(1, top))))
    return books


def random_prices(rnd, works):
    """Prices of several kinds, many of them alike or 0."""
    kind = rnd.choice([[0], [1], [0, 1], [0, 99], [5, 6, 7], list(range(100)), list(range(4))])
    return tuple(rnd.choice(kind) for _ in range(works))


def random_bounds(rnd, windows):
    """Bounds, some of them wide, narrow, beyond the windows, or just one length."""
    found = []
    for first, last in windows:
        least = rnd.choice([0, 0, 1, rnd.randint(0, last - first), rnd.randint(0, last)])
        found.append((least, rnd.choice([least, least + rnd.randint(0, 3), last - first + least, MILLION])))
    return tuple(found)


def random_lot(rnd, windows, longest):
    """A lot, some lengths beyond the windows."""
    return tuple(rnd.choice([None, rnd.randint(0, longest), rnd.randint(0, last - first)]) for first, last in windows)


def random_row(rnd, works):
    """All of these works in some order."""
    row = list(works)
    rnd.shuffle(row)
    return tuple(row)


def great_book(times):
    """A book of 40 works for each time, none of them constructed by a caller as it is."""
    forty = Book(tuple((at, at + 5) for at in range(40)))
    book = forty
    for at in range(1, times):
        book = joined(book, shifted(forty, 40 * at))
    return book


def served_by(windows, absent=True):
    """From each small lot that some order serves to the list of the orders that serve it."""
    orders = list(permutations(range(len(windows))))
    table = {}
    for lot in small_lots(windows, absent):
        found = [order for order in orders if plain_serves(windows, order, lot)]
        if found:
            table[lot] = found
    return table


def changed(thing, at, item):
    """A tuple with another item at this place."""
    return thing[:at] + (item,) + thing[at + 1:]


def raised(case, error, call, *arguments):
    """The error of just this class that a call raises."""
    with case.assertRaises(error) as caught:
        call(*arguments)
    case.assertIs(type(caught.exception), error)
    return caught.exception
