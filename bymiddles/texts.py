"""Books and lots as texts, with a line for each work."""

from bymiddles.books import is_lot
from bymiddles.errors import NoLot


def book_text(book):
    """A line `work FIRST LAST` for each work."""
    return "".join([f"work {first} {last}\n" for first, last in book.windows])


def lot_text(book, lot):
    """A line `away` or `length N` for each work."""
    if not is_lot(book, lot):
        raise NoLot()
    return "".join(["away\n" if item is None else f"length {item}\n" for item in lot])
