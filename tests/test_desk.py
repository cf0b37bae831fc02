"""16.1 and 16.2: the desk."""

import random
import unittest

from bymiddles.bars import bar
from bymiddles.books import Book
from bymiddles.desk import Desk
from bymiddles.errors import (BadBook, BadText, MiddleError, NoLine, NoLot, NoName, NoOrder, NoRow, NothingDone,
                              TooMany)
from bymiddles.holding import most
from bymiddles.later import regret
from bymiddles.orders import many_orders, one_order, throws
from bymiddles.runs import lateness, serves
from bymiddles.texts import book_text
from tests.plain import STRANGE, U, V, W, deep, random_lot, random_row, raised, small_books

# Words that are no numbers, and with which no row and no lot is written.
NO_NUMBERS = ["", "-1", "+1", "00", "01", "1.0", "x", "1 ", " 1", "1\t", "1" * 41, "0x1", "1_0", "--", "None", "(1)", "1|"]
NO_ROWS = NO_NUMBERS + ["0,", ",0", "0,,1", "0,-", "-,0", "-,-", "0;1", "0,01", "0,1,", ",", "0,-1", "0,1.0", "0 ,1"]
NO_LOTS = NO_NUMBERS + ["0,", ",0", "0,,1", "-,", ",-", "-,-,", "0,01,0", "0,+1,0", "-1,0,0", "--,0,0", "0,1.0,0", ","]
NO_NAMES = ["", "A", "aB", "a1", "1", "a-b", "a_b", "abcdefghi", "a.", "-", "a\t", "\t", "|", "a|b", "~"]


def text_of(book):
    """The text of a book as it stands in a line."""
    return book_text(book).replace("\n", "|")


def row_word(row):
    """A row as a word."""
    return ",".join(str(work) for work in row) or "-"


def lot_word(lot):
    """A lot as a word."""
    return ",".join("-" if item is None else str(item) for item in lot)


def word_of(thing):
    """A number or None as a word."""
    return "none" if thing is None else str(thing)


def desk_with(**books):
    """A desk with these books."""
    desk = Desk()
    for name in books:
        desk.tell("book " + name + " " + text_of(books[name]))
    return desk


class Asking(unittest.TestCase):
    def test_examples(self):
        desk = Desk()
        self.assertEqual(desk.tell("book w work 0 10|work 2 5|work 4 9|"), "ok")
        self.assertEqual(desk.tell("book v work 0 6|work 3 8|work 5 12|"), "ok")
        self.assertEqual(desk.tell("book u work 0 10|work 4 6|"), "ok")
        self.assertEqual(desk.tell("book n work 5 9|work 0 3|"), "ok")
        for line, wanted in [
                ("names", "n u v w"), ("one w", "none"), ("one v", "0,1,2"), ("one u", "0,1"), ("many u", "2"),
                ("many w", "0"), ("many v", "1"), ("bar w", "3"), ("bar u", "none"), ("throws w 1,0,2", "2"),
                ("throws v 0,1,2", "0"), ("regret w 1,0,2", "2"), ("serves w 0,1,2 5,0,4", "yes"),
                ("serves w 1,0,2 5,0,4", "no"), ("late w 1,0,2 5,0,4", "2"), ("late w 0,1,2 5,0,4", "0"),
                ("late w - -,-,-", "none"), ("late w 0,1,2 0,-,-", "-10"), ("serves w - -,-,-", "yes"),
                ("most w 0,1,2", "9"), ("most w 2,0,1", "1"), ("most n 0,1", "none"), ("most w 1,2", "7"), ("most w 0", "10")]:
            self.assertEqual(desk.tell(line), wanted, line)
        self.assertEqual(desk.undoable(), 4)

    def test_a_bar_of_four_works(self):
        desk = desk_with(four=Book(((0, 4), (0, 10), (1, 9), (6, 10))), one=Book(((3, 3),)))
        self.assertEqual(desk.tell("bar four"), "4")
        self.assertEqual(desk.tell("one four"), "none")
        self.assertEqual(desk.tell("one one"), "0")
        self.assertEqual(desk.tell("bar one"), "none")

    def test_against_the_functions(self):
        rnd = random.Random(241)
        for book in small_books(241, 120, 5, 12):
            desk = desk_with(a=book)
            order = random_row(rnd, range(len(book.windows)))
            row = order[:rnd.randint(1, len(order))]
            lot = tuple(item if work in row else None for work, item in enumerate(random_lot(rnd, book.windows, 9)))
            least = one_order(book)
            found = bar(book)
            for line, wanted in [
                    ("one a", "none" if least is None else row_word(least)), ("many a", str(many_orders(book))),
                    ("bar a", "none" if found is None else str(len(found[0]))),
                    ("throws a " + row_word(order), str(len(throws(book, order)))),
                    ("regret a " + row_word(order), str(regret(book, order))),
                    ("most a " + row_word(row), word_of(most(book, row))),
                    ("late a " + row_word(row) + " " + lot_word(lot), word_of(lateness(book, row, lot))),
                    ("serves a " + row_word(row) + " " + lot_word(lot), "yes" if serves(book, row, lot) else "no")]:
                told = desk.tell(line)
                self.assertIs(type(told), str)
                self.assertEqual(told, wanted, (book.windows, line))
            self.assertEqual(desk.undoable(), 1)

    def test_names_ascend(self):
        desk = Desk()
        self.assertEqual(desk.tell("names"), "none")
        for name in ["b", "aa", "abcdefgh", "a", "z", "names", "none", "undo", "book", "ab"]:
            self.assertEqual(desk.tell("book " + name + " " + text_of(U)), "ok")
        self.assertEqual(desk.tell("names"), "a aa ab abcdefgh b book names none undo z")
        self.assertEqual(desk.tell("many names"), "2")
        self.assertEqual(desk.tell("drop undo"), "ok")
        self.assertEqual(desk.tell("names"), "a aa ab abcdefgh b book names none z")

    def test_great_numbers(self):
        desk = desk_with(a=W)
        self.assertEqual(desk.tell("late a 0 " + "9" * 40 + ",-,-"), str(10 ** 40 - 11))
        self.assertEqual(desk.tell("serves a 0 " + "9" * 40 + ",-,-"), "no")
        raised(self, NoRow, desk.tell, "most a " + "9" * 40)
        raised(self, NoRow, desk.tell, "most a 0," + "9" * 40)

    def test_books_of_forty_works(self):
        book = Book(tuple((at, at + 5) for at in range(40)))
        desk = desk_with(forty=book)
        self.assertEqual(desk.tell("one forty"), row_word(tuple(range(40))))
        self.assertEqual(desk.tell("throws forty " + row_word(tuple(range(40)))), "0")
        self.assertEqual(desk.tell("most forty " + row_word(tuple(range(40)))), "44")
        raised(self, BadBook, desk.tell, "book forty " + "work 0 0|" * 41)
        self.assertEqual(desk.tell("one forty"), row_word(tuple(range(40))))


class Undoing(unittest.TestCase):
    def same(self, desk, books, depth):
        """Looks whether the desk has just these books."""
        self.assertEqual(desk.tell("names"), " ".join(sorted(books)) or "none")
        self.assertEqual(desk.undoable(), depth)
        for name in "abcd":
            if name in books:
                works = tuple(range(len(books[name].windows)))
                row = row_word(works)
                self.assertEqual(desk.tell("most " + name + " 0"), str(most(books[name], (0,))))
                self.assertEqual(desk.tell("regret " + name + " " + row), str(regret(books[name], works)))
            else:
                self.assertEqual(raised(self, NoName, desk.tell, "most " + name + " 0").name, name)

    def test_long_rows_of_lines(self):
        rnd = random.Random(242)
        for seed in range(12):
            desk, books, elder = Desk(), {}, []
            stock = small_books(242 + seed, 10, 4, 12)
            for _ in range(40):
                kind, name = rnd.choice(["book", "book", "drop", "undo", "wrong"]), rnd.choice("abcd")
                if kind == "book":
                    book = rnd.choice(stock)
                    self.assertEqual(desk.tell("book " + name + " " + text_of(book)), "ok")
                    elder.append(books)
                    books = {**books, name: book}
                elif kind == "drop" and name in books:
                    self.assertEqual(desk.tell("drop " + name), "ok")
                    elder.append(books)
                    books = {other: books[other] for other in books if other != name}
                elif kind == "drop":
                    self.assertEqual(raised(self, NoName, desk.tell, "drop " + name).name, name)
                elif kind == "undo" and elder:
                    self.assertEqual(desk.tell("undo"), "ok")
                    books = elder.pop()
                elif kind == "undo":
                    raised(self, NothingDone, desk.tell, "undo")
                else:
                    self.refused(desk, rnd, name)
                self.same(desk, books, len(elder))
            while elder:
                self.assertEqual(desk.tell("undo"), "ok")
                books = elder.pop()
                self.same(desk, books, len(elder))
            raised(self, NothingDone, desk.tell, "undo")

    def refused(self, desk, rnd, name):
        """Tells it a line that is refused."""
        line = rnd.choice(["book " + name, "book " + name + " work 0 1", "book " + name + " work 2 1|", "drop",
                           "drop  " + name, "undo ", "one", "throws " + name + " 0,0", "regret zz 0", "drop zz", ""])
        with self.assertRaises(MiddleError):
            desk.tell(line)

    def test_a_book_in_the_place_of_an_elder_one(self):
        desk = Desk()
        desk.tell("book a " + text_of(W))
        desk.tell("book a " + text_of(V))
        desk.tell("book a " + text_of(V))
        self.assertEqual(desk.tell("one a"), "0,1,2")
        desk.tell("drop a")
        self.assertEqual(desk.undoable(), 4)
        for wanted in ["0,1,2", "0,1,2", "none"]:
            self.assertEqual(desk.tell("undo"), "ok")
            self.assertEqual(desk.tell("one a"), wanted)
        self.assertEqual(desk.tell("undo"), "ok")
        raised(self, NoName, desk.tell, "one a")
        raised(self, NothingDone, desk.tell, "undo")
        self.assertEqual(desk.undoable(), 0)

    def test_what_was_taken_back_is_not_taken_back_again(self):
        desk = desk_with(a=W, b=V)
        desk.tell("undo")
        self.assertEqual(desk.tell("names"), "a")
        desk.tell("book c " + text_of(U))
        self.assertEqual(desk.undoable(), 2)
        desk.tell("undo")
        desk.tell("undo")
        self.assertEqual(desk.tell("names"), "none")
        raised(self, NothingDone, desk.tell, "undo")

    def test_two_desks_apart(self):
        one, other = Desk(), Desk()
        one.tell("book a " + text_of(W))
        self.assertEqual((one.tell("names"), other.tell("names")), ("a", "none"))
        other.tell("book a " + text_of(V))
        other.tell("book b " + text_of(V))
        self.assertEqual((one.tell("one a"), other.tell("one a")), ("none", "0,1,2"))
        one.tell("undo")
        self.assertEqual((one.undoable(), other.undoable()), (0, 2))
        self.assertEqual((one.tell("names"), other.tell("names")), ("none", "a b"))
        raised(self, NothingDone, one.tell, "undo")
        for thing in STRANGE + [other]:
            self.assertFalse(one == thing)


class Wrong(unittest.TestCase):
    def setUp(self):
        self.desk = desk_with(a=W, b=U)

    def bad(self, error, line):
        """The error that a line raises; nothing changes."""
        caught = raised(self, error, self.desk.tell, line)
        self.assertEqual(self.desk.tell("names"), "a b")
        self.assertEqual(self.desk.undoable(), 2)
        self.assertEqual(self.desk.tell("many b"), "2")
        self.assertEqual(self.desk.tell("bar a"), "3")
        return caught

    def test_what_is_no_string(self):
        for thing in [thing for thing in STRANGE if not isinstance(thing, str)] + [
                b"names", ["names"], ("names",), {"names": 1}, deep(list), deep(dict), deep(tuple), Desk()]:
            raised(self, NoLine, self.desk.tell, thing)

    def test_strange_strings(self):
        for line in ["", " ", "  ", "a", "none", "ok", "names names", "Names", "NAMES", "NAME", "one", "book", "drop", "-",
                     "0", "undo undo", "a" * 9999, "book NAME TEXT", "help", "name", "undoable", "tell", "|", "\t", "names\t",
                     "\tnames", "names|", "back", "copy"]:
            self.bad(NoLine, line)

    def test_line_feeds(self):
        for line in ["names\n", "\nnames", "\n", "undo\n", "one a\n", "one\na", "book c work 0 1\n", "book c work 0 1|\n",
                     "book c work 0 1\nwork 0 1|", "drop a\n", "serves a - -,-,-\n"]:
            self.bad(NoLine, line)

    def test_words_more_or_fewer_and_two_blanks(self):
        for line in ["names", "undo", "drop a", "one a", "many a", "bar a", "throws a 0,1,2", "regret a 0,1,2",
                     "most a 0,1,2", "serves a 0,1,2 0,0,0", "late a 0,1,2 0,0,0"]:
            words = line.split(" ")
            for wrong in [line + " ", " " + line, line + " x", line + " 0", line + " a", "x " + line, line + " -",
                          line.upper(), line.title(), line[1:], line + "\t", line.replace(" ", "\t") + "\t", line + " " + line]:
                self.bad(NoLine, wrong)
            for at in range(len(words)):
                if len(words) > 1:
                    self.bad(NoLine, " ".join(words[:at] + words[at + 1:]))
                    self.bad(NoLine, " ".join(words[:at] + [""] + words[at:]))
                    self.bad(NoLine, " ".join(words[:at] + [""] + words[at + 1:]))
                    self.bad(NoLine, " ".join(words[:at] + ["", ""] + words[at:]))

    def test_names(self):
        for name in NO_NAMES:
            for line in ["book NAME work 0 1|", "drop NAME", "one NAME", "many NAME", "bar NAME", "throws NAME 0,1,2",
                         "regret NAME 0,1,2", "most NAME 0", "serves NAME 0 0,-,-", "late NAME 0 0,-,-"]:
                self.bad(NoLine, line.replace("NAME", name))
        for name in ["c", "ab", "aa", "abcdefgh", "zzzzzzzz", "names"]:
            for line in ["drop NAME", "one NAME", "many NAME", "bar NAME", "throws NAME 0,1,2", "throws NAME 0,0",
                         "regret NAME 0,1,2", "most NAME -", "most NAME 0", "serves NAME 0 0,-,-", "late NAME 9 9"]:
                self.assertEqual(self.bad(NoName, line.replace("NAME", name)).name, name)

    def test_rows(self):
        for word in NO_ROWS:
            for line in ["throws NAME ROW", "regret NAME ROW", "most NAME ROW", "serves NAME ROW 0,0,0",
                         "late NAME ROW 0,0,0"]:
                for name in "ac":
                    self.bad(NoLine, line.replace("NAME", name).replace("ROW", word))
        for row in ["-", "0", "0,1", "0,0,1", "0,1,2,3", "1,2,3", "0,1,2,0", "9" * 40]:
            self.bad(NoOrder, "throws a " + row)
            self.bad(NoOrder, "regret a " + row)
        for row in ["-", "0,0", "3", "0,1,2,3", "0,1,0", "9" * 40]:
            self.bad(NoRow, "most a " + row)
        for row in ["0,0", "3", "0,1,2,3", "0,1,0", "9" * 40]:
            for lot in ["0,0,0", "0", "-,-,-", "-"]:
                self.bad(NoRow, "serves a " + row + " " + lot)
                self.bad(NoRow, "late a " + row + " " + lot)

    def test_lots(self):
        for word in NO_LOTS:
            for name in "ac":
                self.bad(NoLine, "serves " + name + " 0,1,2 " + word)
                self.bad(NoLine, "late " + name + " 0,1,2 " + word)
                self.bad(NoLine, "late " + name + " 0,0,9 " + word)
        for word in ["0", "-", "0,0", "0,0,0,0", "-,-", "9" * 40]:
            self.bad(NoLot, "serves a 0,1,2 " + word)
            self.bad(NoLot, "late a 0,1,2 " + word)
        for row, lot in [("0,1", "0,0,0"), ("-", "-,-,0"), ("2", "0,-,0"), ("1,2", "1,1,1")]:
            self.bad(NoLot, "serves a " + row + " " + lot)
            self.bad(NoLot, "late a " + row + " " + lot)

    def test_texts(self):
        for text in ["", None]:
            self.bad(NoLine, "book c" if text is None else "book c " + text)
            self.bad(NoLine, "book a" if text is None else "book a " + text)
        for text, line in [("work 0 1", 1), ("work 0 1|work 0 1", 2), (" work 0 1|", 1), ("work 0 1||", 2), ("|", 1),
                           ("||", 1), (" ", 1), ("x", 1), ("work 0 1| ", 2), ("work 0 1 |", 1), ("work  0 1|", 1),
                           ("work 0 1|work 01 2|work|", 2), ("work 0 1|work 0\t1|", 2), ("\t", 1), ("work 3 2|x", 2),
                           ("work 0 1,work 0 1|", 1), ("work 0 1|away|", 2), ("work 0 " + "1" * 41 + "|", 1),
                           ("work 3 2|" * 41 + "x", 42)]:
            for name in ["a", "c"]:
                self.assertEqual(self.bad(BadText, "book " + name + " " + text).line, line, text)
        for text in ["work 1 0|", "work 0 1000001|", "work 0 1|work 3 2|", "work 0 0|" * 41, "work 0 " + "9" * 40 + "|"]:
            for name in ["a", "c"]:
                self.bad(BadBook, "book " + name + " " + text)

    def test_names_ahead_of_texts(self):
        for name in NO_NAMES:
            self.bad(NoLine, "book " + name + " x")
            self.bad(NoLine, "book " + name + " work 3 2|")

    def test_what_the_functions_raise(self):
        desk = desk_with(nine=Book(((0, 10),) * 9), two=U)
        for line in ["one nine", "many nine"]:
            self.assertEqual(raised(self, TooMany, desk.tell, line).most, 8)
        self.assertEqual(desk.tell("bar nine"), "none")
        self.assertEqual(desk.undoable(), 2)
        raised(self, NoOrder, desk.tell, "throws nine 0,1,2")

    def test_the_empty_row_and_nobody(self):
        desk = desk_with(one=Book(((3, 7),)))
        for line, wanted in [("serves one - -", "yes"), ("late one - -", "none"), ("serves one 0 -", "yes"),
                             ("late one 0 -", "none"), ("late one 0 4", "0"), ("late one 0 5", "1")]:
            self.assertEqual(desk.tell(line), wanted)
        raised(self, NoLot, desk.tell, "serves one - 0")
        raised(self, NoRow, desk.tell, "most one -")
        raised(self, NoOrder, desk.tell, "throws one -")
