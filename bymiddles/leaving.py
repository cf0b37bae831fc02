"""Which works to leave out, so that there is one order for the others."""

from bymiddles.bars import barred
from bymiddles.errors import NoPrices
from bymiddles.kinds import groups_of, is_integer
from bymiddles.listing import works_of

HIGHEST_PRICE = 99


def is_prices(book, thing):
    """Whether it is a tuple with a price for each work."""
    if not isinstance(thing, tuple) or len(thing) != len(book.windows):
        return False
    return all([is_integer(price) and 0 <= price <= HIGHEST_PRICE for price in thing])


def check_prices(book, thing):
    """Raises NoPrices for what are no prices."""
    if not is_prices(book, thing):
        raise NoPrices()


def price_of(prices, works):
    """The sum of the prices of some works."""
    return sum([prices[work] for work in works])


def bits_of(group):
    """A number that has the bits of the works of a group."""
    return sum([1 << work for work in group])


def dearest(book, prices, groups):
    """As best_part, for a book of which these are the barred groups.

    A part has one order exactly if it has no barred group: of those without one order the least are barred.
    """
    bars = [bits_of(group) for group in groups]
    price = 0
    found = ()
    for group in groups_of(works_of(book)):
        own = price_of(prices, group)
        if own > price or (own == price and group < found):
            bits = bits_of(group)
            if not any([bits & bar == bar for bar in bars]):
                price = own
                found = group
    return price, found


def best_part(book, prices):
    """The pair (price, group) of the dearest group whose part has one order, and the least such group."""
    check_prices(book, prices)
    return dearest(book, prices, barred(book))
