"""The desk, which works by lines: books kept under names, and what is asked of them."""

from bymiddles.bars import bar
from bymiddles.errors import NoLine, NoName, NothingDone
from bymiddles.holding import most
from bymiddles.later import regret
from bymiddles.orders import many_orders, one_order, throws
from bymiddles.reading import is_number_word, read_book
from bymiddles.runs import lateness, serves

MOST_LETTERS = 8
LETTERS = "abcdefghijklmnopqrstuvwxyz"


def is_name(word):
    """Whether it is a name of a book."""
    return 1 <= len(word) <= MOST_LETTERS and all([sign in LETTERS for sign in word])


def row_of_word(word):
    """The row of a word; None if it has not the form of one."""
    if word == "-":
        return ()
    items = word.split(",")
    return tuple([int(item) for item in items]) if all([is_number_word(item) for item in items]) else None


def lot_of_word(word):
    """The lot of a word; None if it has not the form of one."""
    items = word.split(",")
    if not all([item == "-" or is_number_word(item) for item in items]):
        return None
    return tuple([None if item == "-" else int(item) for item in items])


def told_or_none(thing):
    """A thing as a word."""
    return "none" if thing is None else str(thing)


def tell_one(book):
    """The least one order as a row."""
    order = one_order(book)
    return "none" if order is None else ",".join([str(work) for work in order])


def tell_many(book):
    """How many one orders there are."""
    return str(many_orders(book))


def tell_bar(book):
    """The number of the works of the group of a bar."""
    found = bar(book)
    return "none" if found is None else str(len(found[0]))


def tell_throws(book, row):
    """How many throws an order has."""
    return str(len(throws(book, row)))


def tell_regret(book, row):
    """The regret of an order."""
    return str(regret(book, row))


def tell_most(book, row):
    """How much a row holds."""
    return told_or_none(most(book, row))


def tell_serves(book, row, lot):
    """Whether a row serves a lot."""
    return "yes" if serves(book, row, lot) else "no"


def tell_late(book, row, lot):
    """The lateness of a row and a lot."""
    return told_or_none(lateness(book, row, lot))


BY_NAME = {"one": tell_one, "many": tell_many, "bar": tell_bar}
BY_ROW = {"throws": tell_throws, "regret": tell_regret, "most": tell_most}
BY_LOT = {"serves": tell_serves, "late": tell_late}


class Desk:
    """Books by their names, and what they were before each line that can be taken back."""

    def __init__(self):
        self.books = {}
        self.elder = []

    def tell(self, line):
        """Does what a line says, and returns what it is told."""
        if not isinstance(line, str) or "\n" in line:
            raise NoLine()
        if line == "names":
            return " ".join(sorted(self.books)) or "none"
        if line == "undo":
            return self.undo()
        words = line.split(" ", 2)
        if len(words) < 2 or not is_name(words[1]):
            raise NoLine()
        if words[0] == "book":
            return self.keep(words[1], words[2:])
        if words[0] == "drop":
            return self.drop(words[1], words[2:])
        return self.ask(line.split(" "))

    def undoable(self):
        """How many lines can be taken back."""
        return len(self.elder)

    def put(self, books):
        """Has these books from now on."""
        self.elder.append(self.books)
        self.books = books
        return "ok"

    def undo(self):
        """Takes back the last line that changed the books and is not taken back."""
        if not self.elder:
            raise NothingDone()
        self.books = self.elder.pop()
        return "ok"

    def keep(self, name, rest):
        """Keeps a book under a name."""
        if rest == [] or rest == [""]:
            raise NoLine()
        books = dict(self.books)
        books[name] = read_book(rest[0].replace("|", "\n"))
        return self.put(books)

    def drop(self, name, rest):
        """Drops the book of a name."""
        if rest:
            raise NoLine()
        self.check_name(name)
        return self.put({other: self.books[other] for other in self.books if other != name})

    def check_name(self, name):
        """Raises NoName if there is no book of this name."""
        if name not in self.books:
            raise NoName(name)

    def ask(self, words):
        """What is told to a line that asks for something of a book."""
        word = words[0]
        if word in BY_NAME and len(words) == 2:
            return self.ask_by_name(word, words[1])
        if word in BY_ROW and len(words) == 3:
            return self.ask_by_row(word, words[1], row_of_word(words[2]))
        if word in BY_LOT and len(words) == 4:
            return self.ask_by_lot(word, words[1], row_of_word(words[2]), lot_of_word(words[3]))
        raise NoLine()

    def ask_by_name(self, word, name):
        """What is told of a book."""
        self.check_name(name)
        action = BY_NAME[word]
        return action(self.books[name])

    def ask_by_row(self, word, name, row):
        """What is told of a book and a row, None being a word that is none."""
        if row is None:
            raise NoLine()
        self.check_name(name)
        action = BY_ROW[word]
        return action(self.books[name], row)

    def ask_by_lot(self, word, name, row, lot):
        """What is told of a book, a row and a lot, None being a word that is none."""
        if row is None or lot is None:
            raise NoLine()
        self.check_name(name)
        action = BY_LOT[word]
        return action(self.books[name], row, lot)
