"""Lengths seen as works end: plans that choose the next work then, and doubts that show that none is good.

Whoever follows a plan or a doubt comes to a row and a lot, a length of each work being told when it is its turn.
"""

from itertools import permutations

from bymiddles.books import is_group, part, there
from bymiddles.checks import check_hours, check_works
from bymiddles.errors import NoGroup, TooMany
from bymiddles.kinds import is_integer, is_pair
from bymiddles.listing import full_groups_of, lots_of
from bymiddles.steady import has_steady

MOST_IN_GROUP = 3
LAST_HOUR_HERE = 8
MOST_WORKS_HERE = 6


def check_small_group(book, group):
    """Raises what is wrong with a group, or with its book."""
    if not is_group(book, group) or len(group) == 0:
        raise NoGroup()
    if len(group) > MOST_IN_GROUP:
        raise TooMany(MOST_IN_GROUP)
    check_hours(book, LAST_HOUR_HERE)


def rows_by_lot(book, group):
    """From each lot of just the works of a group that some row serves to the list of their rows that serve it."""
    table = {}
    for row in permutations(list(group)):
        for lot in lots_of(book, row):
            if there(book, lot) == group:
                table.setdefault(lot, []).append(row)
    return table


def is_right(table, row, lot):
    """Whether a row serves a lot, or no row of its works does."""
    return lot not in table or row in table[lot]


def nobody(book):
    """The lot with nobody there."""
    return (None,) * len(book.windows)


def still_left(group, row):
    """The works of a group that a row has not, ascending."""
    return [work for work in group if work not in row]


def many_lengths(book, work):
    """How many lengths a work can have in its window."""
    first, last = book.windows[work]
    return last - first + 1


def with_length(lot, work, length):
    """A lot with this work there, too."""
    return lot[:work] + (length,) + lot[work + 1:]


def plan_behind(book, group, table, row, lot):
    """A good plan for what is left of a group when a row of its works is done with the lengths of a lot, or None."""
    left = still_left(group, row)
    if not left:
        return () if is_right(table, row, lot) else None
    for work in left:
        plans = plans_behind(book, group, table, row, lot, work)
        if plans is not None:
            return work, plans
    return None


def plans_behind(book, group, table, row, lot, work):
    """The tuple of good plans behind each length of the work that is done next; None if there is none behind one."""
    found = []
    for length in range(many_lengths(book, work)):
        one = plan_behind(book, group, table, row + (work,), with_length(lot, work, length))
        if one is None:
            return None
        found.append(one)
    return tuple(found)


def plan_for(book, group):
    """As plan, for a group that is known to be right."""
    return plan_behind(book, group, rows_by_lot(book, group), (), nobody(book))


def plan(book, group):
    """A good plan for a group, or None."""
    check_small_group(book, group)
    return plan_for(book, group)


def is_plan_behind(book, group, table, row, lot, thing):
    """Whether a thing is a good plan for what is left of a group behind a row and a lot."""
    left = still_left(group, row)
    if not left:
        return isinstance(thing, tuple) and len(thing) == 0 and is_right(table, row, lot)
    if not is_pair(thing):
        return False
    work, plans = thing
    if not is_integer(work) or work not in left:
        return False
    if not isinstance(plans, tuple) or len(plans) != many_lengths(book, work):
        return False
    return all([is_plan_behind(book, group, table, row + (work,), with_length(lot, work, length), one)
                for length, one in enumerate(plans)])


def is_plan(book, group, thing):
    """Whether a thing is a good plan for a group."""
    check_small_group(book, group)
    return is_plan_behind(book, group, rows_by_lot(book, group), (), nobody(book), thing)


def doubt_behind(book, group, table, row, lot):
    """A good doubt for what is left of a group behind a row and a lot, or None."""
    left = still_left(group, row)
    if not left:
        return None if is_right(table, row, lot) else {}
    found = {}
    for work in left:
        told = length_and_doubt(book, group, table, row, lot, work)
        if told is None:
            return None
        found[work] = told
    return found


def length_and_doubt(book, group, table, row, lot, work):
    """A length of the work that is done next and a good doubt behind it, or None."""
    for length in range(many_lengths(book, work)):
        one = doubt_behind(book, group, table, row + (work,), with_length(lot, work, length))
        if one is not None:
            return length, one
    return None


def doubt(book, group):
    """A good doubt for a group, or None."""
    check_small_group(book, group)
    return doubt_behind(book, group, rows_by_lot(book, group), (), nobody(book))


def is_told_behind(book, group, table, row, lot, work, thing):
    """Whether a thing is a length of the work that is done next and a good doubt behind it."""
    if not is_pair(thing):
        return False
    length, one = thing
    if not is_integer(length) or not 0 <= length < many_lengths(book, work):
        return False
    return is_doubt_behind(book, group, table, row + (work,), with_length(lot, work, length), one)


def is_doubt_behind(book, group, table, row, lot, thing):
    """Whether a thing is a good doubt for what is left of a group behind a row and a lot."""
    left = still_left(group, row)
    if not isinstance(thing, dict) or len(thing) != len(left):
        return False
    if not left:
        return not is_right(table, row, lot)
    return all([work in thing and is_told_behind(book, group, table, row, lot, work, thing[work]) for work in left])


def is_doubt(book, group, thing):
    """Whether a thing is a good doubt for a group."""
    check_small_group(book, group)
    return is_doubt_behind(book, group, rows_by_lot(book, group), (), nobody(book), thing)


def small_groups(book):
    """The ascending list of all groups of one to three works, in a book of few works and early hours."""
    check_works(book, MOST_WORKS_HERE)
    check_hours(book, LAST_HOUR_HERE)
    return sorted([group for group in full_groups_of(book) if len(group) <= MOST_IN_GROUP])


def helped(book):
    """The ascending list of the groups whose part has no steady order, but for which there is a good plan."""
    shaky = [group for group in small_groups(book) if not has_steady(part(book, group))]
    return [group for group in shaky if plan_for(book, group) is not None]


def lost(book):
    """The ascending list of the groups for which there is no good plan."""
    return [group for group in small_groups(book) if plan_for(book, group) is None]
