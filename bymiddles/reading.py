"""Texts read: books and lots of them."""

from bymiddles.books import Book, is_lot
from bymiddles.errors import BadText, NoLot

MOST_FIGURES = 40
FIGURES = "0123456789"


def is_number_word(word):
    """Whether it is a decimal number without a sign and needless zeros."""
    if not 1 <= len(word) <= MOST_FIGURES or not all([sign in FIGURES for sign in word]):
        return False
    return word == "0" or word[0] != "0"


def window_of(line):
    """The two numbers of a line `work FIRST LAST`; None for other lines."""
    words = line.split(" ")
    if len(words) != 3 or words[0] != "work" or not is_number_word(words[1]) or not is_number_word(words[2]):
        return None
    return int(words[1]), int(words[2])


def is_lot_line(line):
    """Whether it is a line of a lot."""
    words = line.split(" ")
    return line == "away" or (len(words) == 2 and words[0] == "length" and is_number_word(words[1]))


def item_of(line):
    """What a line of a lot tells of its work."""
    return None if line == "away" else int(line.split(" ")[1])


def lines_of(text):
    """The list of the lines of a text, each closed by a line feed, and what stands behind the last one of these."""
    if not isinstance(text, str):
        raise BadText(0)
    parts = text.split("\n")
    return parts[:-1], parts[-1]


def check_lines(lines, flags, rest):
    """Raises BadText with the number of the first line that is wrong, as flags tell, or not closed, or not there."""
    if False in flags:
        raise BadText(flags.index(False) + 1)
    if rest != "" or not lines:
        raise BadText(len(lines) + 1)


def read_book(text):
    """The book of a text."""
    lines, rest = lines_of(text)
    windows = [window_of(line) for line in lines]
    check_lines(lines, [window is not None for window in windows], rest)
    return Book(tuple(windows))


def read_lot(book, text):
    """The lot of a text."""
    lines, rest = lines_of(text)
    check_lines(lines, [is_lot_line(line) for line in lines], rest)
    lot = tuple([item_of(line) for line in lines])
    if not is_lot(book, lot):
        raise NoLot()
    return lot
