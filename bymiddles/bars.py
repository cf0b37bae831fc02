"""Bars: three or four works that show that a book has no one order."""

from itertools import combinations, permutations

from bymiddles.books import is_group, is_lot, is_row_of, part, there
from bymiddles.checks import check_works
from bymiddles.kinds import is_pair
from bymiddles.listing import works_of
from bymiddles.orders import has_one_order
from bymiddles.runs import is_served
from bymiddles.strangers import against_row

MOST_FOR_BARRED = 12


def is_stuck(book, group):
    """Whether the part of this group has no one order."""
    return not has_one_order(part(book, group))


def first_stuck_three(book):
    """The least group of three works without a one order, or None."""
    works = works_of(book)
    for group in combinations(works, 3):
        if is_stuck(book, group):
            return group
    return None


def thinned(book, group):
    """A stuck group of which no lesser group is stuck, out of one that is stuck."""
    left = group
    for work in group:
        fewer = tuple([other for other in left if other != work])
        if is_stuck(book, fewer):
            left = fewer
    return left


def least_stuck(book):
    """A group of as few works as any without a one order, or None if the book has one."""
    if has_one_order(book):
        return None
    # Where no three are stuck, four are, and then no thinned group can have any other number of works.
    return first_stuck_three(book) or thinned(book, tuple(works_of(book)))


def filled_up(row, group):
    """The row with the other works of a group behind it, which do nothing where they are not there."""
    return row + tuple([work for work in group if work not in row])


def bar(book):
    """A bar with as few works in its group as any, or None."""
    group = least_stuck(book)
    if group is None:
        return None
    table = {}
    for key in permutations(list(group)):
        lot, row = against_row(book, key)
        table[key] = (lot, filled_up(row, group))
    return group, table


def is_against(book, group, key, thing):
    """Whether a thing is a pair that refutes this row of a group."""
    if not is_pair(thing):
        return False
    lot, row = thing
    if not is_lot(book, lot) or not is_row_of(book, group, row):
        return False
    if not all([work in group for work in there(book, lot)]):
        return False
    return is_served(book, row, lot) and not is_served(book, key, lot)


def is_bar(book, thing):
    """Whether a thing is a bar."""
    if not is_pair(thing):
        return False
    group, table = thing
    if not is_group(book, group) or len(group) not in (3, 4) or not isinstance(table, dict):
        return False
    keys = list(permutations(list(group)))
    if len(table) != len(keys):
        return False
    return all([key in table and is_against(book, group, key, table[key]) for key in keys])


def barred(book):
    """The ascending list of the groups of three or four works that are stuck while no lesser group is."""
    check_works(book, MOST_FOR_BARRED)
    works = works_of(book)
    threes = [group for group in combinations(works, 3) if is_stuck(book, group)]
    fours = [group for group in combinations(works, 4) if is_stuck(book, group)]
    return sorted(threes + [group for group in fours if not has_lesser(group, threes)])


def has_lesser(group, threes):
    """Whether three works of a group of four are one of these groups."""
    return any([three in threes for three in combinations(list(group), 3)])
