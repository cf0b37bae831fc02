"""Lengths within bounds: how much a row holds then, with routes that show it, or rounds that show that it serves none.

A leg costs the most by which the lengths ahead of its end can be more than those ahead of its begin.
"""

from bymiddles.books import hours_between, is_lot, there
from bymiddles.errors import NoBounds, NoLot
from bymiddles.holding import check_full_row, load
from bymiddles.kinds import is_integer, is_pair
from bymiddles.runs import is_served

LONGEST = 1000000


def is_bound(thing):
    """Whether it is a pair of the least and the most that a length may be."""
    if not is_pair(thing):
        return False
    least, longest = thing
    return is_integer(least) and is_integer(longest) and 0 <= least <= longest <= LONGEST


def is_bounds(book, thing):
    """Whether a thing is a tuple with such a pair for each work."""
    if not isinstance(thing, tuple) or len(thing) != len(book.windows):
        return False
    return all([is_bound(pair) for pair in thing])


def check_bounds(book, thing):
    """Raises NoBounds for what are none."""
    if not is_bounds(book, thing):
        raise NoBounds()


def is_kept(bounds, lot):
    """Whether each length of a lot lies within its bounds."""
    return all([item is None or least <= item <= longest for item, (least, longest) in zip(lot, bounds)])


def keeps(book, bounds, lot):
    """Whether a lot keeps the bounds."""
    check_bounds(book, bounds)
    if not is_lot(book, lot):
        raise NoLot()
    return is_kept(bounds, lot)


def check_row_and_bounds(book, row, bounds):
    """Raises NoRow for what is no row of one work or more, then NoBounds."""
    check_full_row(book, row)
    check_bounds(book, bounds)


def latest_ends(book, row, bounds):
    """For each place the hour by which its work must have ended so that those behind it can still end in time."""
    hours = []
    latest = None
    for work in reversed(row):
        last = book.windows[work][1]
        hours.append(last if latest is None else min(last, latest))
        latest = hours[-1] - bounds[work][0]
    return hours[::-1]


def fullest(book, row, bounds):
    """A lot of the greatest sum that keeps the bounds and that the row serves, just its works being there; or None.

    Each work is as long as it can be if those behind it are as short as they can be. No other way holds more: of two
    stretches that overlap, the bounds on their loads are together those on all of both and on what they share.
    """
    lot = [None] * len(book.windows)
    hour = 0
    for work, end in zip(row, latest_ends(book, row, bounds)):
        least, longest = bounds[work]
        begin = max(hour, book.windows[work][0])
        if end - begin < least:
            return None
        lot[work] = min(longest, end - begin)
        hour = begin + lot[work]
    return tuple(lot)


def held_within(book, row, bounds):
    """As most_within, for a row and bounds that are known to be right."""
    lot = fullest(book, row, bounds)
    return None if lot is None else load(lot)


def most_within(book, row, bounds):
    """The greatest sum of lengths within the bounds that the row can serve, all its works being there; or None."""
    check_row_and_bounds(book, row, bounds)
    return held_within(book, row, bounds)


def filled_within(book, row, bounds):
    """A lot of the greatest sum, or None."""
    check_row_and_bounds(book, row, bounds)
    return fullest(book, row, bounds)


def is_filled_within(book, row, bounds, thing):
    """Whether a thing is a lot of just the works of the row, of the greatest sum, kept and served."""
    check_row_and_bounds(book, row, bounds)
    if not is_lot(book, thing) or list(there(book, thing)) != sorted(row) or not is_kept(bounds, thing):
        return False
    return is_served(book, row, thing) and load(thing) == held_within(book, row, bounds)


def gaps_of(leg):
    """The pair of the gaps from which and to which a leg leads."""
    if leg[0] == "over":
        return leg[1], leg[2] + 1
    if leg[0] == "forth":
        return leg[1], leg[1] + 1
    return leg[1] + 1, leg[1]


def cost_of(book, row, bounds, leg):
    """What a leg costs."""
    if leg[0] == "over":
        return hours_between(book, row[leg[1]], row[leg[2]])
    least, longest = bounds[row[leg[1]]]
    return longest if leg[0] == "forth" else -least


def cost_of_all(book, row, bounds, legs):
    """What legs cost together."""
    return sum([cost_of(book, row, bounds, leg) for leg in legs])


def cheapest(book, row, bounds):
    """The cheapest route of legs that do not lead back; if the row serves any lot, no other route is cheaper.

    For a leg over some places, legs back and a leg over others cost as much as one leg over all of these places and
    one over those led back over, less the least lengths there: and a row that serves a lot has room for those.
    """
    ways = [(0, ())]
    for at, work in enumerate(row):
        cost, legs = ways[at]
        options = [(cost + bounds[work][1], legs + (("forth", at),))]
        for a in range(at + 1):
            cost, legs = ways[a]
            options.append((cost + hours_between(book, row[a], work), legs + (("over", a, at),)))
        ways.append(min(options))
    return ways[-1][1]


def route(book, row, bounds):
    """A route that costs the greatest sum, or None."""
    check_row_and_bounds(book, row, bounds)
    if fullest(book, row, bounds) is None:
        return None
    return cheapest(book, row, bounds)


def is_leg(row, thing):
    """Whether a thing is a leg of a row."""
    if not isinstance(thing, tuple) or len(thing) < 2 or not isinstance(thing[0], str):
        return False
    places = thing[1:]
    if not all([is_integer(place) and 0 <= place < len(row) for place in places]):
        return False
    if thing[0] == "over":
        return len(places) == 2 and places[0] <= places[1]
    return thing[0] in ("forth", "back") and len(places) == 1


def is_way(row, thing, start, goal):
    """Whether a thing is a tuple of legs, one behind another, from one gap to another one."""
    if not isinstance(thing, tuple) or not all([is_leg(row, leg) for leg in thing]):
        return False
    pairs = [gaps_of(leg) for leg in thing]
    return [start] + [to for begin, to in pairs] == [begin for begin, to in pairs] + [goal]


def is_route(book, row, bounds, thing):
    """Whether a thing is a route of just the cost of the greatest sum."""
    check_row_and_bounds(book, row, bounds)
    if not is_way(row, thing, 0, len(row)):
        return False
    return cost_of_all(book, row, bounds, thing) == held_within(book, row, bounds)


def round_below(book, row, bounds):
    """A round that costs less than 0, or None.

    It leads over a stretch that is broken though all its works are as short as can be, and back.
    """
    check_row_and_bounds(book, row, bounds)
    for a, one in enumerate(row):
        shortest = 0
        for b in range(a, len(row)):
            shortest += bounds[row[b]][0]
            if shortest > hours_between(book, one, row[b]):
                return (("over", a, b),) + tuple([("back", at) for at in reversed(range(a, b + 1))])
    return None


def is_round_below(book, row, bounds, thing):
    """Whether a thing is a round that costs less than 0."""
    check_row_and_bounds(book, row, bounds)
    if not isinstance(thing, tuple) or len(thing) == 0 or not is_leg(row, thing[0]):
        return False
    start = gaps_of(thing[0])[0]
    return is_way(row, thing, start, start) and cost_of_all(book, row, bounds, thing) < 0
