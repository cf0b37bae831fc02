"""Errors that many functions raise alike, and judgements that many share."""

from bymiddles.books import is_lot, is_order, is_row_of, last_of_all, there
from bymiddles.errors import NoOrder, TooLate, TooMany
from bymiddles.kinds import is_pair


def check_order(book, thing):
    """Raises NoOrder for what is no order."""
    if not is_order(book, thing):
        raise NoOrder()


def check_works(book, many):
    """Raises TooMany for a book of more works."""
    if len(book.windows) > many:
        raise TooMany(many)


def check_hours(book, hour):
    """Raises TooLate for a book with a last hour above this one."""
    if last_of_all(book) > hour:
        raise TooLate(hour)


def is_lot_and_row(book, thing):
    """Whether it is a pair of a lot and a row of just those that are there."""
    if not is_pair(thing):
        return False
    lot, row = thing
    return is_lot(book, lot) and is_row_of(book, there(book, lot), row)
