"""What the strands of songs of any length cost, and how many allowed rows there are."""

from echofold.basics import is_between, least, total
from echofold.errors import InvalidNumber
from echofold.shapes import shape_samples
from echofold.songs import check_song
from echofold.tables import Table, turned_rows
from echofold.words import put_together, repeated

LEAST_MODULUS = 2
# 10 ** 9.
GREATEST_MODULUS = 1000000000


class Rests:
    """The numbers of ways from each letter to each other one, all of them modulo the same integer."""

    def __init__(self, rows, modulus):
        self.ways = tuple([tuple([many % modulus for many in row]) for row in rows])
        self.modulus = modulus

    def __mul__(self, other):
        columns = turned_rows(other.ways)
        return Rests([[products(row, column) for column in columns] for row in self.ways], self.modulus)


def shape_tables(song):
    """Return the list of the tables from the first place to the last one, or once around, in the order of shapes."""
    check_song(song)
    parts = table_parts(song)
    return [put_together(song, first, hop_count(shape), parts) for shape, first in shape_samples(song)]


def least_price(song):
    """Return the least price of all rows, or None."""
    check_song(song)
    parts = table_parts(song)
    return total([price_of_many(song, shape, first, parts) for shape, first in shape_samples(song)])


def count_rest(song, modulus):
    """Return the number of allowed rows modulo this integer."""
    check_song(song)
    if not is_between(modulus, LEAST_MODULUS, GREATEST_MODULUS):
        raise InvalidNumber(modulus)
    parts = tuple([Rests(ways_of_table(table), modulus) for table in table_parts(song)])
    one = Rests([[1]], modulus)
    whole = one
    for shape, first in shape_samples(song):
        ways = put_together(song, first, hop_count(shape), parts).ways
        whole = whole * repeated(one, Rests([[sum(ends(shape[0], ways))]], modulus), shape[4])
    return whole.ways[0][0]


def table_parts(song):
    """Return the tuple of the table of no hop, of a hop on and of a hop back."""
    unit = Table.likeness(song.letters)
    # Where an echo is missing there are no such hops: any table does.
    on = song.echoes[0][1] if len(song.echoes) > 0 else unit
    back = -song.echoes[1][1] if len(song.echoes) > 1 else unit
    return (unit, on, back)


def hop_count(shape):
    """Return the number of all hops of a strand of this shape."""
    return shape[2] + shape[3]


def ends(kind, rows):
    """Return the list of the entries for letters that may end such a strand: on a ring only the one it began with."""
    if kind == "ring":
        return [row[letter] for letter, row in enumerate(rows)]
    return [entry for row in rows for entry in row]


def price_of_many(song, shape, first, parts):
    """Return the least price of so many strands of a shape, of which one begins at this place, or None."""
    if shape[4] == 0:
        return 0
    lowest = least(ends(shape[0], put_together(song, first, hop_count(shape), parts).rows))
    return None if lowest is None else lowest * shape[4]


def ways_of_table(table):
    """Return rows with 1 for each price, and 0 for each barred one."""
    return [[0 if worth is None else 1 for worth in row] for row in table.rows]


def products(ways, others):
    """Return the sum of the products of the numbers at the same index."""
    return sum([one * other for one, other in zip(ways, others)])
