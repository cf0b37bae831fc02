"""Steady orders: those that serve all that can be served if nobody falls away."""

from bymiddles.books import hours_between, is_order, part
from bymiddles.checks import check_order, check_works, is_lot_and_row
from bymiddles.holding import hours_in, spans
from bymiddles.kinds import without
from bymiddles.listing import full_groups_of, orders_of, works_of
from bymiddles.runs import is_served
from bymiddles.strangers import outdone

MOST_FOR_STEADY = 6


def loads_of_all(book):
    """From each group to the greatest load of its works in a lot of all works that some order serves.

    There always is such a lot: an order by first hours serves works without hours.
    """
    groups = full_groups_of(book)
    found = {}
    for order in orders_of(book):
        pairs = spans(book, order)
        if pairs is not None:
            for group in groups:
                many = hours_in([pair for work, pair in zip(order, pairs) if work in group])
                found[group] = max(many, found.get(group, 0))
    return found


def holds_all(book, order, loads):
    """Whether no stretch of an order is broken by the greatest load of its works."""
    for at, one in enumerate(order):
        for to in range(at, len(order)):
            if loads[tuple(sorted(order[at:to + 1]))] > hours_between(book, one, order[to]):
                return False
    return True


def least_steady(book):
    """The least steady order, or None."""
    loads = loads_of_all(book)
    for order in orders_of(book):
        if holds_all(book, order, loads):
            return order
    return None


def is_steady(book, thing):
    """Whether a thing is a steady order."""
    check_works(book, MOST_FOR_STEADY)
    return is_order(book, thing) and holds_all(book, thing, loads_of_all(book))


def steady(book):
    """The least steady order, or None."""
    check_works(book, MOST_FOR_STEADY)
    return least_steady(book)


def check_one_of_few(book, order):
    """Raises what is wrong with an order of a book of few works."""
    check_order(book, order)
    check_works(book, MOST_FOR_STEADY)


def unsteady(book, order):
    """A lot of all works, and an order that serves it while this one does not; None for a steady order."""
    check_one_of_few(book, order)
    return outdone(book, order)


def is_unsteady(book, order, thing):
    """Whether a thing is such a pair."""
    check_one_of_few(book, order)
    if not is_lot_and_row(book, thing) or not is_order(book, thing[1]):
        return False
    lot, other = thing
    return is_served(book, other, lot) and not is_served(book, order, lot)


def has_steady(book):
    """Whether there is a steady order."""
    return least_steady(book) is not None


def turning(book, has_one):
    """The works without which this is no longer so: that the book has a steady order, or that it has none.

    There are none if it is not so for the book itself.
    """
    check_works(book, MOST_FOR_STEADY)
    works = tuple(works_of(book))
    if len(works) == 1 or has_steady(book) != has_one:
        return []
    return [work for work in works if has_steady(part(book, without(works, work))) != has_one]


def helping(book):
    """The ascending list of the works without which the book has no steady order, though it has one."""
    return turning(book, True)


def harming(book):
    """The ascending list of the works without which the book has a steady order, though it has none."""
    return turning(book, False)
