"""Runs: what becomes of a lot when its works are done as they stand in a row."""

from bymiddles.books import is_lot, is_row, is_work
from bymiddles.errors import NoLot, NoRow, NoWork
from bymiddles.kinds import is_integer, is_pair


def check_run(book, row, lot):
    """Raises the errors of a row and a lot, in their order."""
    if not is_row(book, row):
        raise NoRow()
    if not is_lot(book, lot) or not is_all_in(lot, row):
        raise NoLot()


def is_all_in(lot, row):
    """Whether the row has all works that are there."""
    return all([item is None or work in row for work, item in enumerate(lot)])


def coming(row, lot):
    """The works of a row that are there, as they stand in it."""
    return [work for work in row if lot[work] is not None]


def steps(book, row, lot):
    """The list of (work, begin, end) of a row and a lot that are known to be right."""
    found = []
    hour = 0
    for work in coming(row, lot):
        begin = max(hour, book.windows[work][0])
        hour = begin + lot[work]
        found.append((work, begin, hour))
    return found


def is_served(book, row, lot):
    """As serves, for a row and a lot that are known to be right."""
    return all([end <= book.windows[work][1] for work, begin, end in steps(book, row, lot)])


def run(book, row, lot):
    """The triples (work, begin, end) of those that are there."""
    check_run(book, row, lot)
    return tuple(steps(book, row, lot))


def serves(book, row, lot):
    """Whether each work that is there ends by its last hour."""
    check_run(book, row, lot)
    return is_served(book, row, lot)


def lateness(book, row, lot):
    """The greatest number of hours by which a work ends behind its last hour; None if nobody is there."""
    check_run(book, row, lot)
    return max([end - book.windows[work][1] for work, begin, end in steps(book, row, lot)], default=None)


def broken(book, row, lot):
    """The ascending list of the stretches whose load does not fit between their hours."""
    check_run(book, row, lot)
    works = coming(row, lot)
    found = []
    for at, one in enumerate(works):
        hour = book.windows[one][0]
        for other in works[at:]:
            hour = hour + lot[other]
            if hour > book.windows[other][1]:
                found.append((one, other))
    return sorted(found)


def is_broken(book, row, lot, thing):
    """Whether a thing is a broken stretch."""
    found = broken(book, row, lot)
    if not is_pair(thing) or not is_integer(thing[0]) or not is_integer(thing[1]):
        return False
    return thing in found


def room(book, row, lot, work):
    """The greatest length of a work with which the row serves the lot; None if there is none."""
    check_run(book, row, lot)
    if not is_work(book, work) or lot[work] is None:
        raise NoWork()
    bare = lot[:work] + (0,) + lot[work + 1:]
    if not is_served(book, row, bare):
        return None
    begins = [begin for other, begin, end in steps(book, row, bare) if other == work]
    return latest_end(book, row, lot, work) - begins[0]


def latest_end(book, row, lot, work):
    """The hour by which a work must have ended so that it and all behind it end by their last hours."""
    works = coming(row, lot)
    hour = book.windows[works[-1]][1]
    for other in reversed(works[works.index(work) + 1:]):
        hour = min(hour, book.windows[other][1]) - lot[other]
    return min(hour, book.windows[work][1])
