"""The errors of the package. ValueError itself keeps what an error is made with, so each class only says
what it takes and gives its fields their names."""


class MiddleError(ValueError):
    """What all errors of this package are."""


class BadBook(MiddleError):
    """The windows are not those of a book."""

    def __init__(self):
        """It has no fields."""


class NoWork(MiddleError):
    """This is no number of a work, or of none that is there."""

    def __init__(self):
        """It has no fields."""


class NoLot(MiddleError):
    """This is no lot, or none of those that are asked for."""

    def __init__(self):
        """It has no fields."""


class NoGroup(MiddleError):
    """This is no group of one work or more."""

    def __init__(self):
        """It has no fields."""


class NoNumber(MiddleError):
    """This is no integer, or none of those that are asked for."""

    def __init__(self):
        """It has no fields."""


class NoRow(MiddleError):
    """This is no row, or an empty one where works are asked for."""

    def __init__(self):
        """It has no fields."""


class TooMany(MiddleError):
    """There are more than so many."""

    def __init__(self, most):
        self.most = most


class NoOrder(MiddleError):
    """This is no order."""

    def __init__(self):
        """It has no fields."""


class NoRule(MiddleError):
    """The rule gives no row of just the works of this group."""

    def __init__(self, group):
        self.group = group


class TooLate(MiddleError):
    """A last hour is above this one."""

    def __init__(self, most):
        self.most = most


class NoPrices(MiddleError):
    """These are no prices."""

    def __init__(self):
        """It has no fields."""


class NoBounds(MiddleError):
    """These are no bounds."""

    def __init__(self):
        """It has no fields."""


class Over(MiddleError):
    """All works had their turns."""

    def __init__(self):
        """It has no fields."""


class NoLength(MiddleError):
    """This is no length."""

    def __init__(self):
        """It has no fields."""


class NothingDone(MiddleError):
    """There is nothing to take back."""

    def __init__(self):
        """It has no fields."""


class BadText(MiddleError):
    """The line of this number is not of the form that is asked for."""

    def __init__(self, line):
        self.line = line


class NoLine(MiddleError):
    """This line has none of the forms that the desk knows."""

    def __init__(self):
        """It has no fields."""


class NoName(MiddleError):
    """There is no book of this name."""

    def __init__(self, name):
        self.name = name
