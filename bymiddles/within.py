"""One orders within bounds: orders that serve all that keeps the bounds and that any row serves.

Of the lots that refute an order, one with as few works there as can be breaks a stretch that has all of them, and the
more hours they have together, the sooner it does. So it is enough to know how much the rows of each group hold.
"""

from itertools import permutations

from bymiddles.books import is_order
from bymiddles.bounds import check_bounds, fullest, held_within, is_kept
from bymiddles.checks import check_order, check_works, is_lot_and_row
from bymiddles.later import overrun
from bymiddles.listing import full_groups_of, orders_of
from bymiddles.runs import is_served

MOST_WORKS_HERE = 6


def check_few(book, bounds):
    """Raises what is wrong with the bounds of a book of few works."""
    check_bounds(book, bounds)
    check_works(book, MOST_WORKS_HERE)


def fullest_row(book, bounds, group):
    """The pair (most, row) of a row of just these works that holds as much as any; None if none serves anything."""
    pairs = [(held_within(book, row, bounds), row) for row in permutations(list(group))]
    return max([pair for pair in pairs if pair[0] is not None], default=None)


def fullest_rows(book, bounds):
    """The list of (group, most, row) of all groups that some row of just their works serves, lesser groups first."""
    found = [(group, fullest_row(book, bounds, group)) for group in full_groups_of(book)]
    return [(group, pair[0], pair[1]) for group, pair in found if pair is not None]


def first_overrun(book, row, listed):
    """The first (group, most, row) of a list of these that is too much for the works as they stand in a row; or None.

    The row has all works of these groups.
    """
    for group, many, other in listed:
        if overrun(book, row, group, many) > 0:
            return group, many, other
    return None


def is_one_within(book, bounds, thing):
    """Whether a thing is an order that serves all that keeps the bounds and that any row serves."""
    check_few(book, bounds)
    return is_order(book, thing) and first_overrun(book, thing, fullest_rows(book, bounds)) is None


def one_within(book, bounds):
    """The least one order within the bounds, or None."""
    check_few(book, bounds)
    listed = fullest_rows(book, bounds)
    for order in orders_of(book):
        if first_overrun(book, order, listed) is None:
            return order
    return None


def missed_within(book, bounds, order):
    """A lot of as few works as can be that keeps the bounds, and a row of them that serves it while the order does not.

    None for a one order within the bounds.
    """
    check_bounds(book, bounds)
    check_order(book, order)
    check_works(book, MOST_WORKS_HERE)
    found = first_overrun(book, order, fullest_rows(book, bounds))
    if found is None:
        return None
    row = found[2]
    return fullest(book, row, bounds), row


def is_missed_within(book, bounds, order, thing):
    """Whether a thing is such a pair, with any number of works there."""
    check_bounds(book, bounds)
    check_order(book, order)
    if not is_lot_and_row(book, thing):
        return False
    lot, row = thing
    return is_kept(bounds, lot) and is_served(book, row, lot) and not is_served(book, order, lot)


def is_knotted(book, group, listed):
    """Whether no row of a group serves what these lists of groups, hours and rows tell of the groups in it."""
    inner = [(lesser, many, row) for lesser, many, row in listed if all([work in group for work in lesser])]
    for row in permutations(list(group)):
        if first_overrun(book, row, inner) is None:
            return False
    return True


def knot(book, bounds):
    """The first group, lesser ones first, whose part has no one order within its bounds; None if there is none."""
    check_few(book, bounds)
    listed = fullest_rows(book, bounds)
    for group in full_groups_of(book):
        if is_knotted(book, group, listed):
            return group
    return None
