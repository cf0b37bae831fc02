"""How much later an order can end than the best row, how late it can be, and how much notice it needs."""

from bymiddles.books import hours_between, unbounded
from bymiddles.checks import check_order, check_works, is_lot_and_row
from bymiddles.holding import filled, most_of, row_of
from bymiddles.kinds import those_in
from bymiddles.listing import full_groups_of, orders_of
from bymiddles.runs import is_served, lateness
from bymiddles.strangers import lot_of

MOST_FOR_LEAST_REGRET = 7
MOST_FOR_ONE_ORDER = 6
MOST_FOR_LEAST_NOTICE = 5


def first_to_begin(book, one, other):
    """That of two works which may begin earlier."""
    return one if book.windows[one][0] <= book.windows[other][0] else other


def last_to_end(book, one, other):
    """That of two works which may end later."""
    return one if book.windows[one][1] >= book.windows[other][1] else other


def turns(book, order):
    """The list of (hours, front, back, one, other) for all pairs of works, the one ahead of the other one.

    Front and back are those two from one to other which the seventh fact calls f and l, with most hours between
    them; the hours are those of the fact.
    """
    found = []
    for at, one in enumerate(order):
        early = late = one
        widest = []
        for other in order[at + 1:]:
            widest.append((hours_between(book, early, other), early, other))
            widest.append((hours_between(book, other, late), other, late))
            widest = [max(widest)]
            early = first_to_begin(book, early, other)
            late = last_to_end(book, late, other)
            hours, front, back = widest[0]
            found.append((hours - hours_between(book, one, other), front, back, one, other))
    return found


def regret_of(book, order):
    """As regret, for an order that is known to be right."""
    return max([0] + [turn[0] for turn in turns(book, order)])


def regret(book, order):
    """By how many hours the order can be later, at most, than the best row for the same lot."""
    check_order(book, order)
    return regret_of(book, order)


def least_regret(book):
    """The pair (regret, order) of the least regret of all orders, and the least such order."""
    check_works(book, MOST_FOR_LEAST_REGRET)
    return min([(regret_of(book, order), order) for order in orders_of(book)])


def long_lot(book, front, back, one, other):
    """A lot and a row from front to back, which are so long that no stretch with only one of them comes as late.

    The order has one, front, back and other in a stretch from one to other.
    """
    longest = 1 + max([last for first, last in book.windows])
    lengths = {one: 0, other: 0}
    lengths[front] = longest
    lengths[back] = longest
    inner = tuple([work for work in sorted(lengths) if work not in (front, back)])
    return lot_of(book, lengths), (front,) + inner + (back,)


def regret_lot(book, order):
    """A lot, and a row of just those that are there, by the regret less late than the order."""
    check_order(book, order)
    found = max(turns(book, order), default=(0,))
    if found[0] <= 0:
        return lot_of(book, {order[0]: 0}), order[:1]
    hours, front, back, one, other = found
    return long_lot(book, front, back, one, other)


def is_regret_lot(book, order, thing):
    """Whether a thing is such a pair."""
    check_order(book, order)
    if not is_lot_and_row(book, thing) or thing[1] == ():
        return False
    lot, row = thing
    return lateness(book, order, lot) - lateness(book, row, lot) == regret_of(book, order)


def overrun(book, order, group, many):
    """How late an order is with so many hours of work of just this group, if it does not wait in between."""
    row = those_in(order, group)
    return many - hours_between(book, row[0], row[-1])


def held_by_groups(book):
    """The list of (group, hours) of all groups that some row of just their works serves, and what it holds most."""
    found = [(group, most_of(book, group)) for group in full_groups_of(book)]
    return [(group, many) for group, many in found if many is not None]


def check_one_of_few(book, order):
    """Raises what is wrong with an order of a book of few works."""
    check_order(book, order)
    check_works(book, MOST_FOR_ONE_ORDER)


def worst_group(book, order):
    """The pair (hours, group): how late the order is at most with what some row serves, and those there then."""
    return max([(overrun(book, order, group, many), group) for group, many in held_by_groups(book)])


def worst_late(book, order):
    """How late the order is at most with a lot that some row serves; never below 0."""
    check_one_of_few(book, order)
    return worst_group(book, order)[0]


def worst_lot(book, order):
    """A lot in which the order is so late, and a row of just those there which serves it; None if it is not late."""
    check_one_of_few(book, order)
    hours, group = worst_group(book, order)
    if hours == 0:
        return None
    row = row_of(book, group)
    return filled(book, row), row


def is_worst_lot(book, order, thing):
    """Whether a thing is such a pair."""
    check_one_of_few(book, order)
    hours = worst_group(book, order)[0]
    if hours == 0 or not is_lot_and_row(book, thing):
        return False
    lot, row = thing
    return is_served(book, row, lot) and lateness(book, order, lot) == hours


def hastened(book, by):
    """The works with last hours so many hours earlier; no row serves one whose last hour is then ahead of its first."""
    return unbounded([(first, last - by) for first, last in book.windows])


def first_warned(book, orders, by):
    """The first of these orders that serves all that some row serves with last hours so much earlier; or None."""
    listed = held_by_groups(hastened(book, by))
    for order in orders:
        if all([overrun(book, order, group, many) <= 0 for group, many in listed]):
            return order
    return None


def least_warned(book, orders):
    """The pair (hours, order) of the least notice of these orders, and the first of them that has it."""
    low = 0
    high = max([last - first for first, last in book.windows]) + 1
    while low < high:
        half = (low + high) // 2
        if first_warned(book, orders, half) is None:
            low = half + 1
        else:
            high = half
    return low, first_warned(book, orders, low)


def notice(book, order):
    """The notice of an order."""
    check_one_of_few(book, order)
    return least_warned(book, [order])[0]


def least_notice(book):
    """The pair (hours, order) of the least notice of all orders, and the least such order."""
    check_works(book, MOST_FOR_LEAST_NOTICE)
    return least_warned(book, orders_of(book))
