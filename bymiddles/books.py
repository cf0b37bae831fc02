"""Books: a window of hours for each work; and the rows, orders, groups and lots of a book."""

from bymiddles.errors import BadBook, NoGroup, NoLot, NoNumber, NoWork
from bymiddles.kinds import is_integer, is_pair

MOST_WORKS = 40
MOST_HOUR = 1000000


class Book:
    """A window (first, last) for each work. A work is named by its number."""

    def __init__(self, windows):
        if not is_windows(windows):
            raise BadBook()
        self.windows = windows

    def __eq__(self, other):
        return isinstance(other, Book) and self.windows == other.windows


def is_windows(thing):
    """Whether a caller may construct a book of it."""
    if not isinstance(thing, tuple) or not 1 <= len(thing) <= MOST_WORKS:
        return False
    return all([is_window(window) for window in thing])


def is_window(thing):
    """Whether it is a pair of hours, the first one not behind the last one."""
    if not is_pair(thing):
        return False
    first, last = thing
    return is_integer(first) and is_integer(last) and 0 <= first <= last <= MOST_HOUR


def unbounded(windows):
    """A book of windows that come from other books: only what callers construct is bounded in size."""
    book = Book(((0, 0),))
    book.windows = tuple(windows)
    return book


def is_work(book, thing):
    """Whether it is the number of a work."""
    return is_integer(thing) and 0 <= thing < len(book.windows)


def middle(book, work):
    """The sum of both hours of the window of a work: twice its middle, so that it is an integer."""
    if not is_work(book, work):
        raise NoWork()
    first, last = book.windows[work]
    return first + last


def is_inside(inner, outer):
    """Whether the one window lies within the other one."""
    return inner[0] > outer[0] and inner[1] < outer[1]


def within(book, work):
    """The works whose windows lie within that of this one, ascending."""
    if not is_work(book, work):
        raise NoWork()
    outer = book.windows[work]
    return tuple([other for other, inner in enumerate(book.windows) if is_inside(inner, outer)])


def is_row(book, thing):
    """Whether it is a tuple of unlike works."""
    if not isinstance(thing, tuple) or not all([is_work(book, work) for work in thing]):
        return False
    return len(set(thing)) == len(thing)


def is_order(book, thing):
    """Whether it is a row of all works."""
    return is_row(book, thing) and len(thing) == len(book.windows)


def is_group(book, thing):
    """Whether it is an ascending row."""
    return is_row(book, thing) and list(thing) == sorted(thing)


def is_row_of(book, group, thing):
    """Whether it is a row of just the works of this group."""
    return is_row(book, thing) and sorted(thing) == list(group)


def is_length_or_none(thing):
    """Whether it may stand in a lot."""
    return thing is None or (is_integer(thing) and thing >= 0)


def is_lot(book, thing):
    """Whether it is a tuple with a length, or None, for each work."""
    if not isinstance(thing, tuple) or len(thing) != len(book.windows):
        return False
    return all([is_length_or_none(item) for item in thing])


def there(book, lot):
    """The group of the works that have a length."""
    if not is_lot(book, lot):
        raise NoLot()
    return tuple([work for work, item in enumerate(lot) if item is not None])


def part(book, group):
    """The book of the works of a group alone, numbered anew in their order."""
    if not is_group(book, group) or len(group) == 0:
        raise NoGroup()
    return unbounded([book.windows[work] for work in group])


def joined(one_book, other_book):
    """The book of the works of the one, then those of the other."""
    return unbounded(one_book.windows + other_book.windows)


def shifted(book, by):
    """The book with all hours so many later."""
    if not is_integer(by) or min([first for first, last in book.windows]) + by < 0:
        raise NoNumber()
    return unbounded([(first + by, last + by) for first, last in book.windows])


def hours_between(book, one, other):
    """How many hours there are from the first hour of the one work to the last hour of the other, perhaps below 0."""
    return book.windows[other][1] - book.windows[one][0]


def last_of_all(book):
    """The greatest last hour."""
    return max([last for first, last in book.windows])


def mirrored(book):
    """The book with its hours counted backward from the greatest last hour."""
    final = last_of_all(book)
    return unbounded([(final - last, final - first) for first, last in book.windows])
