"""The numbers of the allowed rows of near songs: ascending, as Python orders tuples."""

from echofold.basics import is_whole
from echofold.errors import Barred, InvalidNumber, NoRow
from echofold.prices import check_fixed, check_row
from echofold.songs import check_near
from echofold.strands import all_strands
from echofold.ways import begun_with, kept, letters_allowed, row_total, ways_at


def row_at(song, number, fixed=None):
    """Return the allowed row with this number."""
    check_near(song)
    if not is_whole(number) or number < 0:
        raise InvalidNumber(number)
    check_fixed(song, fixed)
    row = row_with_number(song, number, letters_allowed(song, fixed))
    if row is None:
        raise NoRow(number)
    return row


def number_of(song, row, fixed=None):
    """Return the number of an allowed row."""
    check_row(song, row)
    check_fixed(song, fixed)
    found = all_strands(song)
    allowed = letters_allowed(song, fixed)
    if not is_allowed(found, allowed, row):
        raise Barred()
    return sum([sum(ways_below(found, allowed, row, place)) for place in range(song.length)])


def next_row(song, row, fixed=None):
    """Return the least allowed row that is greater than a row, or None."""
    check_row(song, row)
    check_fixed(song, fixed)
    return row_after(all_strands(song), letters_allowed(song, fixed), row)


def rows_from(song, row=None, fixed=None):
    """Yield the allowed rows from this one on, ascending; without a row all of them."""
    check_near(song)
    if row is not None:
        check_row(song, row)
    check_fixed(song, fixed)
    found = all_strands(song)
    allowed = letters_allowed(song, fixed)
    following = first_row(found, allowed, row)
    while following is not None:
        yield following
        following = row_after(found, allowed, following)


def row_with_number(song, number, allowed):
    """Return the row with this number among those with the allowed letters, or None."""
    found = all_strands(song)
    left = number
    row = ()
    for place in range(song.length):
        ways = ways_at(found, begun_with(allowed, row), place)
        letter = letter_with_number(left, ways)
        if letter is None:
            return None
        left = left - sum(ways[:letter])
        row = row + (letter,)
    return row


def letter_with_number(number, ways):
    """Return the letter of the row with this number, where so many rows have each letter, or None."""
    for letter in range(len(ways)):
        if number < sum(ways[:letter + 1]):
            return letter
    return None


def is_allowed(found, allowed, row):
    """Tell whether the row is allowed and has allowed letters; found are all strands."""
    return row_total(found, begun_with(allowed, row)) > 0


def ways_below(found, allowed, row, place):
    """Return the numbers of rows that are like this one before the place, for each lesser letter there."""
    return ways_at(found, begun_with(allowed, row[:place]), place)[:row[place]]


def first_row(found, allowed, row):
    """Return the least allowed row from this one on, or of all, or None."""
    if row is None:
        return least_row(found, allowed, 0)
    return row if is_allowed(found, allowed, row) else row_after(found, allowed, row)


def row_after(found, allowed, row):
    """Return the least allowed row that is greater than this one, or None."""
    # The more letters both rows begin with alike, the lesser is the greater one.
    for place in reversed(range(len(row))):
        taken = begun_with(allowed, row[:place])
        letter = least_letter(ways_at(found, taken, place), row[place] + 1)
        if letter is not None:
            return least_row(found, begun_with(taken, row[:place] + (letter,)), place + 1)
    return None


def least_row(found, allowed, start):
    """Return the least of the rows with the allowed letters, of which there is only one at each place before start."""
    taken = list(allowed)
    for place in range(start, len(allowed)):
        letter = least_letter(ways_at(found, taken, place), 0)
        if letter is None:
            return None
        taken[place] = kept(taken[place], letter)
    return tuple([marks.index(1) for marks in taken])


def least_letter(ways, start):
    """Return the least letter from start on that some row has, or None."""
    for letter in range(start, len(ways)):
        if ways[letter] > 0:
            return letter
    return None
