"""What kind of thing a thing is, and small things that all modules do with tuples."""

from itertools import combinations


def is_integer(thing):
    """Flags are integers for Python, but not here."""
    return isinstance(thing, int) and not isinstance(thing, bool)


def is_pair(thing):
    """Whether it is a tuple of two."""
    return isinstance(thing, tuple) and len(thing) == 2


def without(group, at):
    """The tuple less the item at this place."""
    return group[:at] + group[at + 1:]


def those_in(row, group):
    """The works of a row that are in a group too, as they stand in the row."""
    return tuple([work for work in row if work in group])


def groups_of(works):
    """The list of all groups of these ascending works: those of fewer works first, then ascending."""
    listed = list(works)
    return [group for size in range(len(listed) + 1) for group in combinations(listed, size)]
