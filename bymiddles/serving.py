"""Whether any row serves a lot: tables over all groups of those that are there."""

from bymiddles.books import is_lot, is_work, last_of_all, mirrored, there
from bymiddles.errors import NoLot, NoWork, TooMany
from bymiddles.kinds import groups_of, is_integer, without

MOST_THERE = 10


def crew(book, lot):
    """The group of those that are there, if they are not too many for a table of all their groups."""
    works = there(book, lot)
    if len(works) > MOST_THERE:
        raise TooMany(MOST_THERE)
    return works


def end_of(book, lot, work, hour):
    """When a work ends if the bench is free at this hour; None if that is too late or the hour is None."""
    if hour is None:
        return None
    first, last = book.windows[work]
    end = max(hour, first) + lot[work]
    return end if end <= last else None


def last_ends(book, lot, group, table):
    """For each work of a group: when it ends if it is done last, and the others as early as the table tells."""
    return [end_of(book, lot, work, table[without(group, at)]) for at, work in enumerate(group)]


def ends_of(book, lot, works):
    """The least ends of all groups of these works, each from those of one work less."""
    table = {(): 0}
    for group in groups_of(works)[1:]:
        hours = [hour for hour in last_ends(book, lot, group, table) if hour is not None]
        table[group] = min(hours, default=None)
    return table


def ends(book, lot):
    """The dict from all groups of those that are there to their least ends, None for those without one."""
    return ends_of(book, lot, crew(book, lot))


def is_hour(wanted, thing):
    """Whether a thing is just this hour, or None where this is None; a flag is no hour."""
    if wanted is None:
        return thing is None
    return is_integer(thing) and thing == wanted


def is_ends(book, lot, thing):
    """Whether a thing is the dict of the least ends."""
    table = ends(book, lot)
    if not isinstance(thing, dict) or len(thing) != len(table):
        return False
    return all([group in thing and is_hour(table[group], thing[group]) for group in table])


def row_for(book, lot):
    """A row of just those that are there which serves the lot, or None."""
    group = crew(book, lot)
    table = ends_of(book, lot, group)
    if table[group] is None:
        return None
    row = ()
    while group:
        at = last_ends(book, lot, group, table).index(table[group])
        row = (group[at],) + row
        group = without(group, at)
    return row


def unbeaten(pairs):
    """Of pairs (end, late) those than which no other one is as little in both."""
    kept = []
    for end, late in sorted(pairs):
        if not kept or late < kept[-1][1]:
            kept.append((end, late))
    return kept


def outcomes(book, lot, group, table):
    """All pairs (end, late) of a group that come from the pairs of the groups of one work less."""
    found = []
    for at, work in enumerate(group):
        first, last = book.windows[work]
        for hour, late in table[without(group, at)]:
            end = max(hour, first) + lot[work]
            found.append((end, max(late, end - last)))
    return found


def least_late(book, lot):
    """The least lateness of all rows of just those that are there; None if nobody is there."""
    works = crew(book, lot)
    if not works:
        return None
    # No work can be earlier than this, so it does not count beside any of them.
    table = {(): [(0, -last_of_all(book))]}
    for group in groups_of(works)[1:]:
        table[group] = unbeaten(outcomes(book, lot, group, table))
    return min([late for end, late in table[works]])


def counted(book, lot, group, table):
    """From each end of a group to the number of its rows that serve it and end then."""
    found = {}
    for at, work in enumerate(group):
        for hour, many in table[without(group, at)].items():
            end = end_of(book, lot, work, hour)
            if end is not None:
                found[end] = found.get(end, 0) + many
    return found


def many_rows(book, lot):
    """The number of the rows of just those that are there which serve the lot."""
    works = crew(book, lot)
    table = {(): {0: 1}}
    for group in groups_of(works)[1:]:
        table[group] = counted(book, lot, group, table)
    return sum(table[works].values())


def room_any(book, lot, work):
    """The greatest length of a work with which some row serves the lot; None if there is none."""
    if not is_lot(book, lot):
        raise NoLot()
    if not is_work(book, work) or lot[work] is None:
        raise NoWork()
    others = tuple([other for other in crew(book, lot) if other != work])
    rooms = [most for most in rooms_between(book, lot, work, others) if most >= 0]
    return max(rooms, default=None)


def rooms_between(book, lot, work, others):
    """For each choice of others ahead, the rest being behind: the hours left between them for this work."""
    ahead = ends_of(book, lot, others)
    behind = ends_of(mirrored(book), lot, others)
    final = last_of_all(book)
    first, last = book.windows[work]
    found = []
    for group in groups_of(others):
        rest = tuple([other for other in others if other not in group])
        if ahead[group] is not None and behind[rest] is not None:
            found.append(min(last, final - behind[rest]) - max(first, ahead[group]))
    return found
