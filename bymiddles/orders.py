"""One orders: the throws of an order, and all orders that have none."""

from itertools import permutations
from math import factorial

from bymiddles.books import is_inside, is_order, middle
from bymiddles.checks import check_order
from bymiddles.errors import NoNumber, TooMany
from bymiddles.kinds import is_integer

MOST_OF_ONE_MIDDLE = 8
MOST_LISTED = 1000


def thrown_over(book, ahead, work, behind):
    """The front and back throws over the middle of this work's window, others standing ahead and behind."""
    own = book.windows[work]
    found = []
    for b in ahead:
        if is_inside(book.windows[b], own):
            hour = middle(book, b) - own[0]
            found.extend([("front", work, b, c) for c in behind if book.windows[c][0] < hour])
    for b in behind:
        if is_inside(book.windows[b], own):
            hour = middle(book, b) - own[1]
            found.extend([("back", work, b, c) for c in ahead if book.windows[c][1] > hour])
    return found


def row_throws(book, row):
    """The ascending list of the throws among the works of a row, as if the book had no others."""
    found = []
    for at, work in enumerate(row):
        behind = row[at + 1:]
        found.extend([("middle", work, b) for b in behind if middle(book, work) > middle(book, b)])
        found.extend(thrown_over(book, row[:at], work, behind))
    return sorted(found)


def throws(book, order):
    """The ascending list of all throws of an order."""
    check_order(book, order)
    return row_throws(book, order)


def is_one_order(book, thing):
    """Whether a thing is an order without a throw."""
    return is_order(book, thing) and row_throws(book, thing) == []


def blocks(book):
    """The works by their middles, ascending: a tuple of those of each middle."""
    table = {}
    for work in range(len(book.windows)):
        table.setdefault(middle(book, work), []).append(work)
    return [tuple(table[hour]) for hour in sorted(table)]


def joined_rows(rows):
    """One row of all these rows, one behind another."""
    return tuple([work for row in rows for work in row])


def ends_of_block(outer):
    """How the works of a block within which others of it lie may stand: the pairs (head, tail) of them.

    Such a work has its block's least one on one side of it. Any third work of the block on the other side would
    complete a throw, so it stands first or last, and there are at most two of them.
    """
    if len(outer) == 0:
        return [((), ())]
    if len(outer) == 1:
        return [(outer, ()), ((), outer)]
    if len(outer) == 2:
        return [(outer[:1], outer[1:]), (outer[1:], outer[:1])]
    return []


def has_no_throw(book, ahead, works, behind):
    """Whether no throw goes over a work of a block that stands so between the others."""
    for at, work in enumerate(works):
        if thrown_over(book, ahead + works[:at], work, works[at + 1:] + behind):
            return False
    return True


def shapes_of(book, ahead, block, behind):
    """All ways in which a block may stand: triples (head, alike, tail), of which those alike stand in any order.

    Those alike have one window, the least of the block, so that it does not matter which of them is which.
    """
    greatest = max([book.windows[work][0] for work in block])
    alike = tuple([work for work in block if book.windows[work][0] == greatest])
    outer = tuple([work for work in block if work not in alike])
    shapes = [(head, alike, tail) for head, tail in ends_of_block(outer)]
    return [shape for shape in shapes if has_no_throw(book, ahead, row_of_shape(shape), behind)]


def row_of_shape(shape):
    """The least row of this shape."""
    head, alike, tail = shape
    return head + alike + tail


def all_shapes(book):
    """For each block, ahead of which the blocks of lesser middles stand, the list of its shapes."""
    listed = blocks(book)
    found = []
    ahead = ()
    behind = joined_rows(listed)
    for block in listed:
        behind = behind[len(block):]
        found.append(shapes_of(book, ahead, block, behind))
        ahead = ahead + block
    return found


def has_one_order(book):
    """Whether there is a one order, for books of any size."""
    return all([len(shapes) > 0 for shapes in all_shapes(book)])


def checked_shapes(book):
    """All shapes, if not too many works have one middle."""
    if max([len(block) for block in blocks(book)]) > MOST_OF_ONE_MIDDLE:
        raise TooMany(MOST_OF_ONE_MIDDLE)
    return all_shapes(book)


def many_of_block(shapes):
    """In how many ways the works of a block may stand."""
    return sum([factorial(len(alike)) for head, alike, tail in shapes])


def many_of_all(listed):
    """In how many ways the works of all blocks may stand."""
    many = 1
    for shapes in listed:
        many = many * many_of_block(shapes)
    return many


def one_order(book):
    """The least one order, or None."""
    listed = checked_shapes(book)
    if many_of_all(listed) == 0:
        return None
    return joined_rows([min([row_of_shape(shape) for shape in shapes]) for shapes in listed])


def many_orders(book):
    """The number of all one orders."""
    return many_of_all(checked_shapes(book))


def many_beginning(shape, start):
    """How many rows of this shape begin with these works."""
    head, alike, tail = shape
    inner = start[len(head):len(head) + len(alike)]
    outer = start[:len(head)] + start[len(head) + len(alike):]
    if outer != (head + tail)[:len(outer)] or not all([work in alike for work in inner]):
        return 0
    return factorial(len(alike) - len(inner))


def block_row_at(shapes, works, number):
    """The row of a block that has this number when all its rows are ascending."""
    row = ()
    while len(row) < len(works):
        for work in [other for other in works if other not in row]:
            many = sum([many_beginning(shape, row + (work,)) for shape in shapes])
            if number < many:
                row = row + (work,)
                break
            number = number - many
    return row


def order_at(book, number):
    """The one order that has this number when they are ascending."""
    listed = checked_shapes(book)
    if not is_integer(number) or not 0 <= number < many_of_all(listed):
        raise NoNumber()
    rows = []
    left = number
    for shapes in reversed(listed):
        left, at = divmod(left, many_of_block(shapes))
        rows.append(block_row_at(shapes, sorted(row_of_shape(shapes[0])), at))
    return joined_rows(rows[::-1])


def block_rows(shapes):
    """All rows of a block, ascending."""
    return sorted([head + row + tail for head, alike, tail in shapes for row in permutations(list(alike))])


def all_orders(book):
    """The ascending list of all one orders."""
    listed = checked_shapes(book)
    many = many_of_all(listed)
    if many > MOST_LISTED:
        raise TooMany(MOST_LISTED)
    if many == 0:
        return []
    rows = [()]
    for shapes in listed:
        endings = block_rows(shapes)
        rows = [row + ending for row in rows for ending in endings]
    return rows
