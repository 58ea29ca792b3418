"""A console: lines of words that change a book and ask it questions."""

from echofold.basics import is_price_text, read_integer, read_price
from echofold.books import SIZES, Book
from echofold.errors import InvalidLine, NoRow
from echofold.lightest import first_lightest
from echofold.numbers import row_with_number
from echofold.shapes import shapes
from echofold.songs import Song
from echofold.tables import table_of_text
from echofold.ways import letters_not_barred

# How many numbers stand behind the words that have only numbers behind them.
NUMBERS = {"song": 2, "drop": 1, "length": 1, "free": 1, "undo": 0, "redo": 0, "lightest": 0, "count": 0, "row": 1,
           "shapes": 0, "text": 0}
DONE = "ok"


class Console:
    """A book that is told what to do line by line."""

    def __init__(self):
        self._book = Book(Song(2, 1))

    def run(self, line):
        """Do what the line says, and return the answer."""
        order = order_of(line)
        if order is None:
            raise InvalidLine(line)
        word = order[0]
        if word in SIZES:
            self._book.do(order)
            return DONE
        if word == "song":
            self._book = Book(Song(order[1], order[2]))
            return DONE
        if word == "undo":
            self._book.undo()
            return DONE
        if word == "redo":
            self._book.redo()
            return DONE
        return answer(self._book, order)


def order_of(line):
    """Return the tuple of the first word and what the words behind it say, or None for a value that is no such line."""
    if not isinstance(line, str):
        return None
    # An empty word is none of those below, no number, no price and no part of a table.
    words = line.split(" ")
    word = words[0]
    behind = words[1:]
    if word == "echo":
        return echo_order(behind)
    if word == "wish":
        return wish_order(behind)
    if word in NUMBERS and len(behind) == NUMBERS[word]:
        return number_order(word, behind)
    return None


def number_order(word, behind):
    """Return the order of a word with numbers behind it, or None."""
    numbers = [read_integer(number) for number in behind]
    return None if None in numbers else (word,) + tuple(numbers)


def echo_order(behind):
    """Return the order of one more echo, or None."""
    delay = read_integer(behind[0]) if len(behind) > 0 else None
    table = table_of_text(" ".join(behind[1:]))
    return None if delay is None or table is None else ("echo", delay, table)


def wish_order(behind):
    """Return the order of a wish, or None."""
    place = read_integer(behind[0]) if len(behind) > 1 else None
    if place is None or not all([is_price_text(word) for word in behind[1:]]):
        return None
    return ("wish", place, tuple([read_price(word) for word in behind[1:]]))


def answer(book, order):
    """Return the answer to a question."""
    word = order[0]
    if word == "lightest":
        return lightest_text(book)
    if word == "count":
        return str(book.row_count())
    if word == "row":
        return row_text(book, order[1])
    if word == "shapes":
        return "; ".join([shape_text(shape) for shape in shapes(book.song)])
    return book.song.text


def lightest_text(book):
    """Return the least price and the digits of the least row that has it."""
    found = first_lightest(book.song, book.wishes)
    return "none" if found is None else f"{found[0]} {digits(found[1])}"


def row_text(book, number):
    """Return the digits of the row with this number among those without a letter whose wish is None."""
    row = row_with_number(book.song, number, letters_not_barred(book.song, book.wishes))
    if row is None:
        raise NoRow(number)
    return digits(row)


def shape_text(shape):
    """Return how a shape is written."""
    return " ".join([str(part) for part in shape])


def digits(row):
    """Return the letters of a row, written one behind another."""
    return "".join([str(letter) for letter in row])
