"""What a row can hold: the greatest lots of it, and covers that show that none is greater."""

from itertools import permutations

from bymiddles.books import hours_between, is_group, is_lot, is_row, there
from bymiddles.errors import NoGroup, NoRow, TooMany
from bymiddles.kinds import is_integer, is_pair
from bymiddles.runs import is_served

MOST_IN_GROUP = 7


def check_full_row(book, row):
    """Raises NoRow for what is no row of one work or more."""
    if not is_row(book, row) or len(row) == 0:
        raise NoRow()


def first_hours(book, row):
    """For each place: the greatest first hour up to it, ahead of which its work cannot begin."""
    hours = []
    for work in row:
        first = book.windows[work][0]
        hours.append(max(first, hours[-1]) if hours else first)
    return hours


def last_hours(book, row):
    """For each place: the least last hour from it on, by which its work must have ended."""
    hours = []
    for work in reversed(row):
        last = book.windows[work][1]
        hours.append(min(last, hours[-1]) if hours else last)
    return hours[::-1]


def spans(book, row):
    """For each place the pair of hours that the row leaves its work; None if it serves nothing at all."""
    pairs = list(zip(first_hours(book, row), last_hours(book, row)))
    return pairs if all([begin <= end for begin, end in pairs]) else None


def packed(book, row, works):
    """A lot of just the works of the row, served by it, in which these works together are as long as can be.

    Each of them takes all hours of its span that none ahead has taken: together they take all hours that lie
    in a span of theirs, and no lot takes others. None if the row serves no lot of all its works.
    """
    pairs = spans(book, row)
    if pairs is None:
        return None
    lot = [None] * len(book.windows)
    taken = 0
    for work, (begin, end) in zip(row, pairs):
        lot[work] = 0
        if work in works:
            lot[work] = end - max(begin, taken)
            taken = end
    return tuple(lot)


def hours_in(pairs):
    """How many hours lie in one of these spans or more, each of which begins and ends no earlier than those ahead."""
    many = 0
    taken = 0
    for begin, end in pairs:
        many += end - max(begin, taken)
        taken = end
    return many


def load(lot):
    """The sum of the lengths of those that are there."""
    return sum([item for item in lot if item is not None])


def held(book, row):
    """As most, for a row that is known to be right."""
    pairs = spans(book, row)
    return None if pairs is None else hours_in(pairs)


def most(book, row):
    """The greatest sum of lengths that the row can serve, all its works being there; None if there is none."""
    check_full_row(book, row)
    return held(book, row)


def filled(book, row):
    """A lot of the greatest sum, or None."""
    check_full_row(book, row)
    return packed(book, row, row)


def is_filled(book, row, thing):
    """Whether a thing is a lot of just the works of the row, of the greatest sum, that the row serves."""
    check_full_row(book, row)
    if not is_lot(book, thing) or list(there(book, thing)) != sorted(row):
        return False
    return is_served(book, row, thing) and load(thing) == held(book, row)


def cover(book, row):
    """A cover whose worth is the greatest sum, or None: a pair of places for each run of touching spans.

    Where a run begins or ends, the span begins or ends with the hour of that very work: an hour of one further
    out would leave that one no span at all. So the worth is the number of the hours in the spans.
    """
    check_full_row(book, row)
    pairs = spans(book, row)
    if pairs is None:
        return None
    found = []
    start = 0
    for at in range(len(row)):
        if at + 1 == len(row) or pairs[at + 1][0] > pairs[at][1]:
            found.append((start, at))
            start = at + 1
    return tuple(found)


def is_stretch(row, thing):
    """Whether it is a pair of places of the row, the one not behind the other."""
    if not is_pair(thing) or not is_integer(thing[0]) or not is_integer(thing[1]):
        return False
    return 0 <= thing[0] <= thing[1] < len(row)


def is_covering(row, thing):
    """Whether it is a cover of the row, whatever its worth."""
    if not isinstance(thing, (list, tuple)) or not all([is_stretch(row, pair) for pair in thing]):
        return False
    return all([any([a <= at <= b for a, b in thing]) for at in range(len(row))])


def worth(book, row, pairs):
    """The worth of a cover."""
    return sum([hours_between(book, row[a], row[b]) for a, b in pairs])


def is_cover(book, row, thing):
    """Whether a thing is a cover of just the worth of the greatest sum."""
    check_full_row(book, row)
    return is_covering(row, thing) and worth(book, row, thing) == held(book, row)


def fullest(book, group):
    """The pair (most, row) of a row of these works that holds as much as any; None if none serves anything."""
    if not is_group(book, group) or len(group) == 0:
        raise NoGroup()
    if len(group) > MOST_IN_GROUP:
        raise TooMany(MOST_IN_GROUP)
    pairs = [(held(book, row), row) for row in permutations(list(group))]
    return max([pair for pair in pairs if pair[0] is not None], default=None)


def most_of(book, group):
    """The greatest sum of all rows of just these works; None if none serves anything."""
    best = fullest(book, group)
    return None if best is None else best[0]


def row_of(book, group):
    """A row of just these works that holds so much, or None."""
    best = fullest(book, group)
    return None if best is None else best[1]
