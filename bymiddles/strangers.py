"""Orders and rules of strangers, refuted by lots of as few works as can be."""

from itertools import permutations

from bymiddles.books import hours_between, is_row_of
from bymiddles.checks import check_order, check_works, is_lot_and_row
from bymiddles.errors import NoRule
from bymiddles.holding import load, packed
from bymiddles.listing import full_groups_of, works_of
from bymiddles.orders import row_throws
from bymiddles.runs import is_served

MOST_FOR_RULES = 5


def lot_of(book, lengths):
    """The lot with the lengths of this dict; the others fall away."""
    return tuple([lengths.get(work) for work in works_of(book)])


def against_middle(book, a, b):
    """The pair (lot, row) that shows that a, of the greater middle, must not stand ahead of b.

    Both together are an hour too long for the row with a ahead, but not for the other one.
    """
    total = max(0, hours_between(book, a, b) + 1)
    longest = hours_between(book, a, a)
    lengths = {a: min(total, longest), b: total - min(total, longest)}
    return lot_of(book, lengths), (b, a)


def front_lengths(a, b, c):
    """Lengths with which windows a, b, c are served in this row, but not with b ahead of a.

    The one of a ends as late as those behind it let it, the one of c takes all that is left then: it is too
    late if a has to wait until b has begun.
    """
    length = min(b[1], c[1]) - a[0]
    return length, 0, c[1] - max(c[0], a[0] + length, b[0])


def backward(window):
    """The window as it is when hours are counted backward."""
    return -window[1], -window[0]


def against_row(book, row):
    """A pair (lot, other), other being a row of just those there which serves the lot, while the row does not.

    As few works are there as can be; None if the row has no throw.
    """
    found = row_throws(book, row)
    if not found:
        return None
    # Middle throws stand last; they need two works only, and the others take it that there are none.
    if found[-1][0] == "middle":
        return against_middle(book, found[-1][1], found[-1][2])
    side, a, b, c = found[0]
    windows = [book.windows[work] for work in (a, b, c)]
    if side == "back":
        windows = [backward(window) for window in windows]
    lengths = front_lengths(windows[0], windows[1], windows[2])
    lot = lot_of(book, {a: lengths[0], b: lengths[1], c: lengths[2]})
    return lot, ((a, b, c) if side == "front" else (c, b, a))


def refuted(book, order):
    """A lot of as few works as can be, and a row of them that serves it while the order does not; or None."""
    check_order(book, order)
    return against_row(book, order)


def is_refuted(book, order, thing):
    """Whether a thing is such a pair, with any number of works there."""
    check_order(book, order)
    if not is_lot_and_row(book, thing):
        return False
    lot, row = thing
    return is_served(book, row, lot) and not is_served(book, order, lot)


def overfull(book, row, other):
    """A lot of just the works of both rows that the other one serves but this one does not, or None.

    Of such a lot some stretch of the row is broken, so one where these works are as long as can be will do.
    """
    for at, one in enumerate(row):
        for to in range(at, len(row)):
            lot = packed(book, other, row[at:to + 1])
            if lot is not None and load(lot) > hours_between(book, one, row[to]):
                return lot
    return None


def outdone(book, row):
    """A pair (lot, other) of just the works of a row, as overfull tells, or None."""
    for other in permutations(list(row)):
        lot = overfull(book, row, other)
        if lot is not None:
            return lot, other
    return None


def rule_refuted(book, rule):
    """The triple (group, lot, row) that refutes a rule at the first group where it can be refuted, or None."""
    check_works(book, MOST_FOR_RULES)
    for group in full_groups_of(book):
        row = rule(group)
        if not is_row_of(book, group, row):
            raise NoRule(group)
        found = outdone(book, row)
        if found is not None:
            return (group,) + found
    return None
