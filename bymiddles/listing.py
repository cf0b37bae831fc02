"""Lists of all that a book has: works, groups, orders, and the lots that its orders serve."""

from itertools import permutations

from bymiddles.kinds import groups_of


def works_of(book):
    """The list of all works."""
    return list(range(len(book.windows)))


def full_groups_of(book):
    """The list of all groups of one work or more, those of fewer works first, then ascending."""
    return groups_of(works_of(book))[1:]


def orders_of(book):
    """The ascending list of all orders."""
    works = works_of(book)
    return list(permutations(works))


def lots_of(book, row):
    """The list of all lots that a row serves, with none there but works of the row."""
    found = [(0, (None,) * len(book.windows))]
    for work in row:
        first, last = book.windows[work]
        longer = [(max(hour, first) + length, lot[:work] + (length,) + lot[work + 1:])
                  for hour, lot in found for length in range(last - max(hour, first) + 1)]
        found = found + longer
    return [lot for hour, lot in found]


def servers(book):
    """From each lot that some row serves to a number whose bits tell the places of the orders that serve it."""
    table = {}
    for at, order in enumerate(orders_of(book)):
        for lot in lots_of(book, order):
            table[lot] = table.get(lot, 0) | (1 << at)
    return table
