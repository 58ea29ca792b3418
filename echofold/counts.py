"""How many rows of near songs there are: the allowed ones, and those of each price."""

from echofold.basics import is_between
from echofold.errors import InvalidNumber
from echofold.prices import check_fixed, check_wishes
from echofold.songs import check_near
from echofold.strands import Line, all_strands, inner_hops
from echofold.tables import turned_rows
from echofold.wishes import only, unpriced, wished, wishes_for_letters

GREATEST_MOST = 60


def row_count(song, fixed=None):
    """Return the number of the allowed rows of a near song."""
    check_near(song)
    check_fixed(song, fixed)
    return counted(unpriced(song), 0, wishes_for_letters(song, fixed))[0]


def count_by_price(song, most, wishes=None):
    """Return the list of the numbers of rows with the prices from 0 to most."""
    check_near(song)
    if not is_between(most, 0, GREATEST_MOST):
        raise InvalidNumber(most)
    check_wishes(song, wishes)
    return counted(song, most, wishes)


def counted(song, most, wishes):
    """Return the numbers of rows with the prices from 0 to most; nothing is checked."""
    added = wished(song, wishes)
    counts = one_row(most)
    for strand in all_strands(song):
        counts = counts_of_both(counts, strand_counts(strand, most, added))
    return counts


def one_row(most):
    """Return the counts of one row with the price 0."""
    return [1] + [0] * most


def strand_counts(strand, most, added):
    """Return the counts of the letters along one strand."""
    start = added[strand.places[0]]
    if isinstance(strand, Line):
        return summed(counts_along(strand, start, most, added))
    # A ring ends where it begins: only with the first letter known is it counted like a line.
    return summed([ring_counts(strand, letter, most, added) for letter in range(len(start))])


def ring_counts(ring, letter, most, added):
    """Return the counts of the letters along a ring that begin with this one."""
    start = only(added[ring.places[0]], letter)
    table = ring.hops[-1][2]
    column = turned_rows(table.rows)[letter]
    return summed([dearer(counts, worth) for counts, worth in zip(counts_along(ring, start, most, added), column)])


def counts_along(strand, start, most, added):
    """Return the counts for each letter at the last place, where those at the first place cost this."""
    found = [dearer(one_row(most), worth) for worth in start]
    for _, there, table in inner_hops(strand):
        found = counts_after(found, table, added[there])
    return found


def counts_after(found, table, wish):
    """Return the counts for each letter, one hop and one wish later."""
    columns = turned_rows(table.rows)
    sooner = [summed([dearer(counts, worth) for counts, worth in zip(found, column)]) for column in columns]
    return [dearer(counts, worth) for counts, worth in zip(sooner, wish)]


def dearer(counts, worth):
    """Return the counts of the same rows where each costs so much more."""
    many = len(counts)
    if worth is None or worth >= many:
        return [0] * many
    return [0] * worth + counts[:many - worth]


def summed(several):
    """Return the sums of the counts at the same price."""
    return [sum(column) for column in zip(*several)]


def counts_of_both(one, other):
    """Return the counts of all ways to take a row of each, at the sum of both prices."""
    return summed([[many * times for times in dearer(other, worth)] for worth, many in enumerate(one)])
