"""What is near one orders: the nearest one, partings of a book, and windows that are welcome."""

from bymiddles.books import is_group, part, unbounded
from bymiddles.checks import check_order, check_works
from bymiddles.errors import NoNumber
from bymiddles.kinds import is_integer, those_in
from bymiddles.listing import full_groups_of, works_of
from bymiddles.orders import checked_shapes, has_one_order, joined_rows

MOST_WORKS_HERE = 8
LATEST_WELCOME = 20


def exchanges(order, row):
    """How many exchanges of neighbours lead from one order of some works to another: as many as pairs stand unlike."""
    places = {work: at for at, work in enumerate(order)}
    found = 0
    for at, work in enumerate(row):
        found += len([other for other in row[at + 1:] if places[other] < places[work]])
    return found


def nearest_row(order, shapes):
    """The row of a block of these shapes to which fewest exchanges lead, the least such row.

    Those alike stand as in the order: any other way costs more.
    """
    rows = [head + those_in(order, alike) + tail for head, alike, tail in shapes]
    return min([(exchanges(those_in(order, row), row), row) for row in rows])[1]


def swaps(book, order):
    """The fewest exchanges of neighbours that lead from an order to a one order; None if there is none."""
    found = nearest(book, order)
    return None if found is None else exchanges(order, found)


def nearest(book, order):
    """The least one order to which so few exchanges lead; None if there is none.

    Blocks stand one behind another in each one order, so that each block can be looked at by itself.
    """
    check_order(book, order)
    listed = checked_shapes(book)
    if [] in listed:
        return None
    return joined_rows([nearest_row(order, shapes) for shapes in listed])


def has_one_for(book, group):
    """Whether the part of this group has one order."""
    return has_one_order(part(book, group))


def less(works, group):
    """The list of these works without those of a group."""
    return [work for work in works if work not in group]


def least_parting(right, works, many):
    """The least ascending tuple of at most so many of the right groups, each of these works in just one; or None.

    The right groups are ascending. The first of the tuple has the first of the works.
    """
    if not works:
        return ()
    if many == 0:
        return None
    inner = [group for group in right if all([work in works for work in group])]
    for group in [one for one in inner if one[0] == works[0]]:
        others = least_parting(inner, less(works, group), many - 1)
        if others is not None:
            return (group,) + others
    return None


def parting(book):
    """The least parting of as few groups as any. Each work by itself has one order, so there always is one."""
    check_works(book, MOST_WORKS_HERE)
    right = sorted([group for group in full_groups_of(book) if has_one_for(book, group)])
    works = works_of(book)
    many = 1
    found = least_parting(right, works, many)
    while found is None:
        many += 1
        found = least_parting(right, works, many)
    return found


def is_parting(book, thing):
    """Whether a thing is a parting."""
    if not isinstance(thing, tuple):
        return False
    if not all([is_group(book, group) and len(group) > 0 for group in thing]):
        return False
    if list(thing) != sorted(thing) or sorted(joined_rows(thing)) != works_of(book):
        return False
    return all([has_one_for(book, group) for group in thing])


def welcome(book, most):
    """The ascending list of the windows with last hours of at most this with which one work more leaves one order."""
    if not is_integer(most) or not 0 <= most <= LATEST_WELCOME:
        raise NoNumber()
    check_works(book, MOST_WORKS_HERE)
    windows = [(first, last) for first in range(most + 1) for last in range(first, most + 1)]
    return [window for window in windows if has_one_order(unbounded(book.windows + (window,)))]
