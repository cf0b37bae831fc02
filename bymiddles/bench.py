"""The bench, led live: works have their turns as they stand in an order."""

from bymiddles.checks import check_order
from bymiddles.errors import NoLength, NothingDone, Over
from bymiddles.kinds import is_integer
from bymiddles.runs import steps
from bymiddles.serving import row_for
from bymiddles.strangers import lot_of


class Bench:
    """What became of the works that had their turns: a length, or None, for each of them. All else follows from it."""

    def __init__(self, book, order):
        check_order(book, order)
        self.book = book
        self.order = order
        self.told = ()

    def now(self):
        """The hour at which the bench is free."""
        return max([end for work, begin, end in steps(self.book, self.order, self.lot())], default=0)

    def turn(self):
        """The work whose turn it is, None if all had theirs."""
        return self.order[len(self.told)] if len(self.told) < len(self.order) else None

    def check_turn(self):
        """Raises Over if all works had their turns."""
        if self.turn() is None:
            raise Over()

    def done(self, length):
        """The work whose turn it is was there and took so long."""
        self.check_turn()
        if not is_integer(length) or length < 0:
            raise NoLength()
        self.told = self.told + (length,)

    def away(self):
        """The work whose turn it is fell away."""
        self.check_turn()
        self.told = self.told + (None,)

    def lot(self):
        """The lot so far, with None for those that fell away or whose turns have not come."""
        return lot_of(self.book, {work: item for work, item in zip(self.order, self.told)})

    def late(self):
        """The ascending list of (work, hours) of those that ended so many hours behind their last hour."""
        ends = [(work, end - self.book.windows[work][1])
                for work, begin, end in steps(self.book, self.order, self.lot())]
        return sorted([(work, hours) for work, hours in ends if hours > 0])

    def spare(self):
        """How long the work whose turn it is may take to end by its last hour, perhaps below 0."""
        self.check_turn()
        first, last = self.book.windows[self.turn()]
        return last - max(self.now(), first)

    def blame(self):
        """A row of just those of the lot so far that serves it, if somebody was late; None if there is none."""
        return row_for(self.book, self.lot()) if self.late() else None

    def back(self):
        """Takes back the last turn that is not taken back."""
        if self.told == ():
            raise NothingDone()
        self.told = self.told[:-1]

    def depth(self):
        """How many turns can be taken back."""
        return len(self.told)

    def copy(self):
        """Another bench that goes on apart, and can go back likewise."""
        other = Bench(self.book, self.order)
        other.told = self.told
        return other

    def trying(self, action):
        """What a function returns that is called with the bench; all is put back then."""
        told = self.told
        try:
            return action(self)
        finally:
            self.told = told
