"""Roofs: trees that show that no group whose part has one order is dearer than a bound."""

from bymiddles.bars import barred
from bymiddles.books import is_group, is_work
from bymiddles.errors import NoNumber
from bymiddles.kinds import is_integer, is_pair
from bymiddles.leaving import check_prices, dearest, price_of


def has_any(group, works):
    """Whether a group has one of these works."""
    return any([work in works for work in group])


def without_works(group, works):
    """The works of a group that are none of these."""
    return tuple([work for work in group if work not in works])


def least_price(prices, works):
    """The least price of some works; None if there are none."""
    return min([prices[work] for work in works], default=None)


def is_apart(groups, kept):
    """Whether no two of these groups share a work that is not kept."""
    works = [work for group in groups for work in without_works(group, kept)]
    return len(set(works)) == len(works)


def is_worth_at_most(prices, bound, groups, kept, left):
    """Whether an apart node with these groups is worth the bound at most."""
    off = [least_price(prices, without_works(group, kept)) for group in groups]
    return None in off or sum(prices) - price_of(prices, left) - sum(off) <= bound


def chosen_apart(prices, rests):
    """Places of some of these tuples of works, no two of which share a work, with least prices as high as may be."""
    ranked = sorted([(-least_price(prices, rest), len(rest), at) for at, rest in enumerate(rests)])
    places = []
    taken = []
    for price, size, at in ranked:
        if not has_any(rests[at], taken):
            places.append(at)
            taken.extend(rests[at])
    return places


def most_shared(prices, rests):
    """The work that stands in most of these tuples of works, the dearest of such."""
    works = [work for rest in rests for work in rest]
    return max([(works.count(work), prices[work], work) for work in works])[2]


def roof_of(prices, bound, groups, kept, left):
    """A roof for a bound below a node with these works kept and left, and just these barred groups without a left work.

    It comes to an end: with no group any more, the part of all works that are not left has one order, so that they
    are worth the bound at most, which is the price of the dearest of such groups.
    """
    rests = [without_works(group, kept) for group in groups]
    if () in rests:
        return ("apart", (groups[rests.index(())],))
    chosen = [groups[at] for at in chosen_apart(prices, rests)]
    if is_worth_at_most(prices, bound, chosen, kept, left):
        return ("apart", tuple(chosen))
    work = most_shared(prices, rests)
    fewer = [group for group in groups if work not in group]
    return ("split", work, roof_of(prices, bound, groups, kept + (work,), left),
            roof_of(prices, bound, fewer, kept, left + (work,)))


def roof(book, prices):
    """A roof for the price of the dearest group whose part has one order."""
    check_prices(book, prices)
    groups = barred(book)
    bound = dearest(book, prices, groups)[0]
    return roof_of(prices, bound, groups, (), ())


def is_apart_node(book, prices, bound, table, thing, kept, left):
    """Whether a thing is an apart node, worth the bound at most, where these works are kept and left."""
    if not is_pair(thing) or not isinstance(thing[0], str) or not isinstance(thing[1], tuple):
        return False
    if thing[0] != "apart":
        return False
    groups = thing[1]
    if not all([is_group(book, group) and group in table and not has_any(group, left) for group in groups]):
        return False
    return is_apart(groups, kept) and is_worth_at_most(prices, bound, groups, kept, left)


def is_roof_below(book, prices, bound, table, thing, kept, left):
    """Whether a thing is a roof for the bound where these works are kept and left; the table has the barred groups.

    No way has more splits than there are works, so that no thing is looked into deeper.
    """
    if not isinstance(thing, tuple) or len(thing) != 4:
        return is_apart_node(book, prices, bound, table, thing, kept, left)
    word, work, one, other = thing
    if not isinstance(word, str) or word != "split" or not is_work(book, work) or work in kept + left:
        return False
    if not is_roof_below(book, prices, bound, table, one, kept + (work,), left):
        return False
    return is_roof_below(book, prices, bound, table, other, kept, left + (work,))


def is_roof(book, prices, bound, thing):
    """Whether a thing is a roof for this bound."""
    check_prices(book, prices)
    if not is_integer(bound):
        raise NoNumber()
    table = {group: True for group in barred(book)}
    return is_roof_below(book, prices, bound, table, thing, (), ())
