"""Lots counted and numbered: how many a row serves, and which of them has which number.

Ways are kept by hours: a list with a number for each hour from 0 to the greatest last hour. A work that is there ends
at one hour for each length, so that there are as many ways as lots.
"""

from bymiddles.books import is_lot, is_row, last_of_all
from bymiddles.checks import check_hours, check_works
from bymiddles.errors import NoLot, NoNumber, NoRow
from bymiddles.kinds import is_integer
from bymiddles.listing import orders_of, servers
from bymiddles.runs import is_all_in, is_served

LAST_HOUR_OF_ROWS = 1000
LAST_HOUR_OF_ALL = 8
MOST_FOR_ALL = 4
MOST_FOR_STRONGEST = 6


def check_row(book, row):
    """Raises NoRow for what is no row, then TooLate for a book with hours that are too late."""
    if not is_row(book, row):
        raise NoRow()
    check_hours(book, LAST_HOUR_OF_ROWS)


def sums_of(numbers):
    """The list of the sums of the first numbers, of none of them first."""
    found = [0]
    for number in numbers:
        found.append(found[-1] + number)
    return found


def onward(window, ways):
    """The ways to be free at each hour behind a work that may be away or there with any length, from those ahead."""
    first, last = window
    found = []
    total = 0
    for hour, many in enumerate(ways):
        total += many
        found.append(many + total if first <= hour <= last else many)
    return found


def onward_with(window, ways, length):
    """The ways to be free at each hour behind a work that is there with this length, from those ahead."""
    first, last = window
    found = [0] * len(ways)
    for hour, many in enumerate(ways):
        end = max(hour, first) + length
        if end <= last:
            found[end] += many
    return found


def ways_ahead(book, row, known):
    """The ways to be free at each hour when a row is done, some works being known: away, or with a length."""
    ways = [1] + [0] * last_of_all(book)
    for work in row:
        if work not in known:
            ways = onward(book.windows[work], ways)
        elif known[work] is not None:
            ways = onward_with(book.windows[work], ways, known[work])
    return ways


def backward(window, ways):
    """The ways to go on from each hour with a work that may be away or there with any length, from those behind."""
    first, last = window
    sums = sums_of(ways)
    return [many + sums[last + 1] - sums[max(hour, first)] if hour <= last else many
            for hour, many in enumerate(ways)]


def backward_with(window, ways, length):
    """The ways to go on from each hour with a work that is there with this length, from those behind."""
    first, last = window
    ends = [max(hour, first) + length for hour in range(len(ways))]
    return [ways[end] if end <= last else 0 for end in ends]


def ways_behind(book, row, known):
    """The ways to go on from each hour until a row is done, some works being known."""
    ways = [1] * (last_of_all(book) + 1)
    for work in reversed(row):
        if work not in known:
            ways = backward(book.windows[work], ways)
        elif known[work] is not None:
            ways = backward_with(book.windows[work], ways, known[work])
    return ways


def sides(book, row, work, known):
    """The ways up to a work of a row and those on from it."""
    at = row.index(work)
    return ways_ahead(book, row[:at], known), ways_behind(book, row[at + 1:], known)


def many_away(ahead, behind):
    """In how many ways the work between is away."""
    return sum([many * others for many, others in zip(ahead, behind)])


def many_shorter(window, ahead, sums, length):
    """In how many ways the work between is there and shorter than this, the sums being those of the ways behind."""
    first, last = window
    found = 0
    for hour in range(last + 1):
        begin = max(hour, first)
        found += ahead[hour] * (sums[min(begin + length, last + 1)] - sums[begin])
    return found


def length_at(window, ahead, sums, number):
    """The length that the work between has in the way of this number, those where it is shorter coming first."""
    low = 0
    high = window[1] - window[0]
    while low < high:
        half = (low + high) // 2
        if many_shorter(window, ahead, sums, half + 1) > number:
            high = half
        else:
            low = half + 1
    return low


def many_of_row(book, row):
    """As many_lots, for a row that is known to be right."""
    return sum(ways_ahead(book, row, {}))


def many_lots(book, row):
    """The number of the lots that a row serves, with none there but works of the row."""
    check_row(book, row)
    return many_of_row(book, row)


def lot_at(book, row, number):
    """The lot that has this number among them."""
    check_row(book, row)
    if not is_integer(number) or not 0 <= number < many_of_row(book, row):
        raise NoNumber()
    known = {}
    left = number
    for work in sorted(row):
        ahead, behind = sides(book, row, work, known)
        away = many_away(ahead, behind)
        if left < away:
            known[work] = None
        else:
            sums = sums_of(behind)
            known[work] = length_at(book.windows[work], ahead, sums, left - away)
            left = left - away - many_shorter(book.windows[work], ahead, sums, known[work])
    return tuple([known.get(work) for work in range(len(book.windows))])


def lot_number(book, row, lot):
    """The number of a lot among them."""
    check_row(book, row)
    if not is_lot(book, lot) or not is_all_in(lot, row) or not is_served(book, row, lot):
        raise NoLot()
    known = {}
    number = 0
    for work in sorted(row):
        if lot[work] is not None:
            ahead, behind = sides(book, row, work, known)
            number += many_away(ahead, behind)
            number += many_shorter(book.windows[work], ahead, sums_of(behind), lot[work])
        known[work] = lot[work]
    return number


def many_served(book):
    """The number of the lots that some row serves."""
    check_works(book, MOST_FOR_ALL)
    check_hours(book, LAST_HOUR_OF_ALL)
    return len(servers(book))


def strongest(book):
    """The pair (number, order) of the most lots that an order serves, and the least such order."""
    check_works(book, MOST_FOR_STRONGEST)
    check_hours(book, LAST_HOUR_OF_ROWS)
    number = 0
    found = None
    for order in orders_of(book):
        many = many_of_row(book, order)
        if many > number:
            number = many
            found = order
    return number, found
