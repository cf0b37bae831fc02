"""Windows narrowed until there is one order."""

from bymiddles.books import Book, unbounded
from bymiddles.checks import check_hours, check_works
from bymiddles.orders import has_one_order

MOST_WORKS_HERE = 4
LAST_HOUR_HERE = 8


def narrower_windows(window, hours):
    """The ascending list of (inner, left) for all windows in this one, so many hours or fewer narrower.

    What is left of the hours tells how many more there are.
    """
    first, last = window
    found = []
    for begin in range(first, last + 1):
        for end in range(begin, last + 1):
            left = hours - (begin - first) - (last - end)
            if left >= 0:
                found.append(((begin, end), left))
    return found


def cut_by(windows, hours):
    """The ascending list of the tuples of windows in these, just so many hours narrower together."""
    found = [((), hours)]
    for window in windows:
        found = [(row + (inner,), rest) for row, left in found for inner, rest in narrower_windows(window, left)]
    return [row for row, left in found if left == 0]


def first_with_one_order(rows):
    """The first of these tuples of windows whose book has one order, as a book; None if none has."""
    for row in rows:
        other = unbounded(row)
        if has_one_order(other):
            return other
    return None


def least_cut(book):
    """The pair (hours, other) of the fewest hours by which a narrower book with one order is narrower, and that book.

    With windows of one hour each there is one order, so there always is such a book.
    """
    check_works(book, MOST_WORKS_HERE)
    check_hours(book, LAST_HOUR_HERE)
    hours = 0
    found = first_with_one_order([book.windows])
    while found is None:
        hours += 1
        found = first_with_one_order(cut_by(book.windows, hours))
    return hours, found


def is_narrower(book, thing):
    """Whether a thing is a book of as many works, with no first hour earlier and no last hour later."""
    if not isinstance(thing, Book) or len(thing.windows) != len(book.windows):
        return False
    pairs = list(zip(book.windows, thing.windows))
    return all([outer[0] <= inner[0] and inner[1] <= outer[1] for outer, inner in pairs])
