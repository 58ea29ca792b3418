"""Tables: a price for each pair of letters, and what can be made of them."""

from echofold.basics import is_between, is_price, is_price_text, least, price_text, read_price
from echofold.errors import InvalidNumber, InvalidTable, InvalidText, OtherLetters


class Table:
    """Prices of pairs of letters: entry b of row a is the price of letter a followed by letter b."""

    MOST_LETTERS = 5
    # 10 ** 30; a class value is written out.
    MOST_TIMES = 1000000000000000000000000000000

    def __init__(self, rows):
        if not are_rows(rows):
            raise InvalidTable(rows)
        self._rows = tuple([tuple(row) for row in rows])

    @property
    def rows(self):
        """The prices, as a tuple of tuples."""
        return self._rows

    @property
    def letters(self):
        """The number of letters."""
        return len(self._rows)

    @property
    def text(self):
        """The prices as Table.read takes them."""
        return " / ".join([" ".join([price_text(price) for price in row]) for row in self._rows])

    @classmethod
    def likeness(cls, letters):
        """Return the table with the price 0 for equal letters, and no other price."""
        check_letters(letters)
        return cls([[0 if a == b else None for b in range(letters)] for a in range(letters)])

    @classmethod
    def silence(cls, letters):
        """Return the table in which all prices are 0."""
        check_letters(letters)
        return cls([[0] * letters] * letters)

    @classmethod
    def pairs(cls, letters, *pairs):
        """Return the table with the price 0 for these pairs of letters, and no other price."""
        check_letters(letters)
        for pair in pairs:
            if not is_pair(pair, letters):
                raise InvalidNumber(pair)
        return cls([[0 if (a, b) in pairs else None for b in range(letters)] for a in range(letters)])

    @staticmethod
    def read(text):
        """Return the table with this text."""
        table = table_of_text(text)
        if table is None:
            raise InvalidText(0)
        return table

    def price(self, first, second):
        """Return the price of the first letter followed by the second one."""
        for letter in (first, second):
            if not is_letter(letter, self.letters):
                raise InvalidNumber(letter)
        return self._rows[first][second]

    def again(self, times):
        """Return the table composed of itself so many times."""
        if not is_between(times, 0, Table.MOST_TIMES):
            raise InvalidNumber(times)
        whole = Table.likeness(self.letters)
        # One table for each binary digit of times: 10 ** 30 compositions are too many to make.
        part = self
        left = times
        while left > 0:
            if left % 2 == 1:
                whole = whole * part
            part = part * part
            left = left // 2
        return whole

    def __mul__(self, other):
        check_same_letters(self, other)
        columns = turned_rows(other.rows)
        return Table([[least(sums(row, column)) for column in columns] for row in self._rows])

    def __add__(self, other):
        check_same_letters(self, other)
        return Table([sums(row, beside) for row, beside in zip(self._rows, other.rows)])

    def __or__(self, other):
        check_same_letters(self, other)
        return Table([lesser_ones(row, beside) for row, beside in zip(self._rows, other.rows)])

    def __neg__(self):
        return Table(turned_rows(self._rows))

    def __eq__(self, other):
        return isinstance(other, Table) and self._rows == other._rows


def check_letters(letters):
    """Raise InvalidNumber unless there may be so many letters."""
    if not is_between(letters, 1, Table.MOST_LETTERS):
        raise InvalidNumber(letters)


def check_same_letters(one, other):
    """Raise OtherLetters unless both tables have equally many letters."""
    if one.letters != other.letters:
        raise OtherLetters()


def is_letter(value, letters):
    """Tell whether the value is one of so many letters."""
    return is_between(value, 0, letters - 1)


def is_pair(value, letters):
    """Tell whether the value is a tuple of two of so many letters."""
    if not isinstance(value, tuple) or len(value) != 2:
        return False
    return is_letter(value[0], letters) and is_letter(value[1], letters)


def are_rows(value):
    """Tell whether the value is a list of k lists of k prices."""
    if not isinstance(value, (list, tuple)) or not 1 <= len(value) <= Table.MOST_LETTERS:
        return False
    return all([are_prices(row, len(value)) for row in value])


def are_prices(value, many):
    """Tell whether the value is a list of so many prices."""
    if not isinstance(value, (list, tuple)) or len(value) != many:
        return False
    return all([is_price(price) for price in value])


def sums(prices, others):
    """Return the list of the sums of the prices that stand at the same index."""
    return [None if one is None or other is None else one + other for one, other in zip(prices, others)]


def lesser_ones(prices, others):
    """Return the list of the lesser ones of the prices that stand at the same index."""
    return [least([one, other]) for one, other in zip(prices, others)]


def turned_rows(rows):
    """Return the columns of the rows."""
    return [list(column) for column in zip(*rows)]


def table_of_text(text):
    """Return the table with this text, or None for any other value."""
    if not isinstance(text, str):
        return None
    rows = [part.split(" ") for part in text.split(" / ")]
    if not all([is_price_text(word) for row in rows for word in row]):
        return None
    prices = [[read_price(word) for word in row] for row in rows]
    return Table(prices) if are_rows(prices) else None
