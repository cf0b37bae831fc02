"""Shelves: a few orders that serve together all that any row serves."""

from bymiddles.books import is_order
from bymiddles.checks import check_hours, check_works
from bymiddles.listing import orders_of, servers

MOST_WORKS_HERE = 4
LAST_HOUR_HERE = 8


def needs(book):
    """The ascending list of numbers whose bits tell places of orders, one of which must be on each shelf.

    Those that have all bits of another one come with it for nothing.
    """
    check_works(book, MOST_WORKS_HERE)
    check_hours(book, LAST_HOUR_HERE)
    table = servers(book)
    found = sorted(set(list(table.values())))
    return [bits for bits in found if not any([other != bits and other & bits == other for other in found])]


def least_places(bits_of_all, start, many):
    """The least ascending tuple of at most so many places from start on with one bit of each number, or None."""
    if not bits_of_all:
        return ()
    if many == 0:
        return None
    for place in range(start, min([bits.bit_length() for bits in bits_of_all])):
        others = least_places([bits for bits in bits_of_all if not bits >> place & 1], place + 1, many - 1)
        if others is not None:
            return (place,) + others
    return None


def shelf(book):
    """The least shelf of as few orders as any."""
    bits_of_all = needs(book)
    orders = orders_of(book)
    for many in range(1, len(orders)):
        places = least_places(bits_of_all, 0, many)
        if places is not None:
            return tuple([orders[place] for place in places])
    return tuple(orders)


def is_shelf(book, thing):
    """Whether a thing is a shelf."""
    bits_of_all = needs(book)
    if not isinstance(thing, tuple) or not all([is_order(book, order) for order in thing]):
        return False
    if list(thing) != sorted(set(thing)):
        return False
    places = [place for place, order in enumerate(orders_of(book)) if order in thing]
    return all([any([bits >> place & 1 for place in places]) for bits in bits_of_all])
