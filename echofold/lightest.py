"""The cheapest rows of near songs, and the records that show that none is cheaper."""

from echofold.basics import is_price, is_whole, least, total
from echofold.errors import Barred
from echofold.prices import check_row, check_wishes
from echofold.songs import check_near
from echofold.strands import Line, all_strands, inner_hops
from echofold.tables import sums, turned_rows
from echofold.wishes import only, unpriced, wished, wishes_against_changes, with_letter


def lightest(song, wishes=None):
    """Return ("row", price, row, record) with a row of the least price, or ("none", record) if all are barred."""
    check_near(song)
    check_wishes(song, wishes)
    added = wished(song, wishes)
    found = all_strands(song)
    record = [best_entry(strand, added) for strand in found]
    bound = record_bound(found, record)
    if bound is None:
        return ("none", record)
    return ("row", bound, lightest_row(song, found, record), record)


def shows(song, wishes, price, record):
    """Tell whether this is a record whose bound is at least this price."""
    check_near(song)
    check_wishes(song, wishes)
    added = wished(song, wishes)
    found = all_strands(song)
    if not is_price(price) or not is_list(record, len(found)):
        return False
    if not all([is_entry(strand, entry, added) for strand, entry in zip(found, record)]):
        return False
    return at_most(price, record_bound(found, record))


def nearest(song, row):
    """Return the tuple (changes, other) with an allowed row that differs least from this row."""
    check_row(song, row)
    found = lightest(unpriced(song), wishes_against_changes(song, row))
    if found[0] == "none":
        raise Barred()
    return (found[1], found[2])


def least_bound(found, added):
    """Return the least price of all rows with these wishes, one for each place, or None; found are all strands."""
    return total([strand_bound(strand, added) for strand in found])


def strand_bound(strand, added):
    """Return the least price of all letters along a strand, or None."""
    return entry_bound(strand, best_entry(strand, added))


def first_lightest(song, wishes):
    """Return the tuple (price, row) of the least of the rows with the least price, or None; nothing is checked."""
    found = all_strands(song)
    added = wished(song, wishes)
    price = least_bound(found, added)
    if price is None:
        return None
    # The strands have no price in common: the row is the least one if it is so on each of them.
    row = [0] * song.length
    for strand in found:
        for place, letter in first_letters(strand, added):
            row[place] = letter
    return (price, tuple(row))


def first_letters(strand, added):
    """Return the tuples (place, letter) of the least ones of the cheapest letters along a strand."""
    best = strand_bound(strand, added)
    taken = added
    letters = []
    for place in sorted(strand.places):
        choices = [with_letter(taken, place, a) for a in range(len(added[place]))]
        letter = [strand_bound(strand, choice) for choice in choices].index(best)
        taken = choices[letter]
        letters.append((place, letter))
    return letters


def best_entry(strand, added):
    """Return the entry of the record that has the greatest bound."""
    start = added[strand.places[0]]
    if isinstance(strand, Line):
        return heights_from(strand, start, added)
    # Heights for one first letter are about the rows that begin with it: None, the top, does for the other letters.
    return [heights_from(strand, only(start, letter), added) for letter in range(len(start))]


def heights_from(strand, start, added):
    """Return the greatest heights of a strand that begin with these."""
    if least(start) is None:
        # What is barred at first stays barred, without a look at the hops.
        return [start] * len(strand)
    heights = [start]
    for _, there, table in inner_hops(strand):
        heights.append(reached(heights[-1], table, added[there]))
    return heights


def reached(level, table, wish):
    """Return the greatest heights that may follow those of one place, one hop and one wish later."""
    return tuple([total([least(sums(level, column)), worth]) for column, worth in zip(turned_rows(table.rows), wish)])


def record_bound(found, record):
    """Return the sum of the bounds of all strands."""
    return total([entry_bound(strand, entry) for strand, entry in zip(found, record)])


def entry_bound(strand, entry):
    """Return the bound of one strand."""
    if isinstance(strand, Line):
        return least(entry[-1])
    return least([least(closing_sums(strand, entry, letter)) for letter in range(len(entry))])


def closing_sums(ring, entry, letter):
    """Return the heights for the first letter of a ring, once around: one for each letter at the last place."""
    table = ring.hops[-1][2]
    return sums(entry[letter][-1], turned_rows(table.rows)[letter])


def lightest_row(song, found, record):
    """Return the row with the price that the record has as its bound."""
    row = [0] * song.length
    for strand, entry in zip(found, record):
        for place, letter in zip(strand.places, lightest_letters(strand, entry)):
            row[place] = letter
    return tuple(row)


def lightest_letters(strand, entry):
    """Return letters along a strand that cost what its entry has as its bound."""
    if isinstance(strand, Line):
        return letters_up_to(strand, entry, spot_of_least(entry[-1]))
    first = spot_of_least([least(closing_sums(strand, entry, letter)) for letter in range(len(entry))])
    return letters_up_to(strand, entry[first], spot_of_least(closing_sums(strand, entry, first)))


def letters_up_to(strand, heights, last):
    """Return the letters along a strand that lead to the height of this letter at the last place."""
    letters = [last]
    for level, hop in reversed(list(zip(heights, inner_hops(strand)))):
        column = turned_rows(hop[2].rows)[letters[-1]]
        letters.append(spot_of_least(sums(level, column)))
    return letters[::-1]


def spot_of_least(prices):
    """Return the index of the first of the least prices."""
    return prices.index(least(prices))


def is_entry(strand, entry, added):
    """Tell whether the value is an entry of a record for this strand."""
    start = added[strand.places[0]]
    if isinstance(strand, Line):
        return are_heights(strand, entry, start, added)
    if not is_list(entry, len(start)):
        return False
    return all([are_heights(strand, heights, only(start, letter), added) for letter, heights in enumerate(entry)])


def are_heights(strand, value, start, added):
    """Tell whether the value is heights of the strand, none of them greater than its limit."""
    if not is_list(value, len(strand)) or not all([is_level(level, len(start)) for level in value]):
        return False
    later = [reached(level, table, added[there]) for level, (_, there, table) in zip(value, inner_hops(strand))]
    limits = [start] + later
    return all([are_at_most(level, limit) for level, limit in zip(value, limits)])


def is_list(value, many):
    """Tell whether the value is a list of so many things."""
    return isinstance(value, list) and len(value) == many


def is_level(value, many):
    """Tell whether the value is a tuple of so many heights: integers or None."""
    if not isinstance(value, tuple) or len(value) != many:
        return False
    return all([height is None or is_whole(height) for height in value])


def are_at_most(heights, limits):
    """Tell whether no height is greater than the limit at the same index."""
    return all([at_most(height, limit) for height, limit in zip(heights, limits)])


def at_most(one, other):
    """Tell whether one is at most the other one; None is the greatest."""
    return other is None or (one is not None and one <= other)
