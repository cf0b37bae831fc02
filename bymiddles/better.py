"""Orders compared: which serve all that others serve."""

from bymiddles.books import hours_between, is_lot
from bymiddles.checks import check_order, check_works
from bymiddles.holding import held, load, packed
from bymiddles.kinds import those_in
from bymiddles.listing import full_groups_of, orders_of
from bymiddles.runs import is_served

MOST_FOR_TWO = 8
MOST_FOR_ALL = 5


def check_two(book, one, other):
    """Raises NoOrder if either is no order."""
    check_order(book, one)
    check_order(book, other)


def missed_lot(book, one, other):
    """A lot of as few works as can be that the other order serves but the one does not, or None.

    With as few works as can be, a broken stretch has all that are there, and their being longer keeps it broken.
    """
    for group in full_groups_of(book):
        row = those_in(one, group)
        lot = packed(book, those_in(other, group), group)
        if lot is not None and load(lot) > hours_between(book, row[0], row[-1]):
            return lot
    return None


def as_good(book, one, other):
    """Whether the one order serves every lot that the other one serves."""
    return missed(book, one, other) is None


def missed(book, one, other):
    """A lot of as few works as can be that the other order serves but the one does not, or None."""
    check_two(book, one, other)
    check_works(book, MOST_FOR_TWO)
    return missed_lot(book, one, other)


def is_missed(book, one, other, thing):
    """Whether a thing is such a lot, with any number of works there."""
    check_two(book, one, other)
    return is_lot(book, thing) and is_served(book, other, thing) and not is_served(book, one, thing)


def hold(book, order):
    """How much an order holds of each group, -1 where it serves nothing.

    It tells which lots the order serves: it serves all that another one serves just if it holds nowhere less.
    For then no stretch is broken by what the other one holds of its works.
    """
    found = [held(book, those_in(order, group)) for group in full_groups_of(book)]
    return tuple([-1 if many is None else many for many in found])


def alike(book):
    """From how much orders hold to the ascending list of the orders that hold so much."""
    check_works(book, MOST_FOR_ALL)
    table = {}
    for order in orders_of(book):
        table.setdefault(hold(book, order), []).append(order)
    return table


def is_nowhere_less(one, other):
    """Whether the one tuple of numbers has in no place less than the other one."""
    return all([many >= least for many, least in zip(one, other)])


def is_outdone(key, keys):
    """Whether one of these keys, but this one itself, has in no place less than it."""
    return any([other != key and is_nowhere_less(other, key) for other in keys])


def best(book):
    """The ascending list of the orders than which no other one is better."""
    table = alike(book)
    return sorted([order for key in table if not is_outdone(key, list(table)) for order in table[key]])


def classes(book):
    """The ascending list of the ascending lists of all orders that serve the same lots."""
    table = alike(book)
    return sorted(list(table.values()))
