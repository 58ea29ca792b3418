"""Which letters the rows of near songs may have at a place, and what they cost at two places."""

from echofold.lightest import least_bound
from echofold.prices import check_fixed, check_wishes
from echofold.songs import check_near, check_place
from echofold.strands import all_strands
from echofold.tables import Table
from echofold.ways import letters_allowed, ways_at
from echofold.wishes import wished, with_letter


def letters_left(song, fixed=None):
    """Return for each place the tuple of the letters that some allowed row has there."""
    check_near(song)
    check_fixed(song, fixed)
    return letters_met(song, letters_allowed(song, fixed))


def table_between(song, one, other, wishes=None):
    """Return the table of the least prices of the rows with the first letter at one place, the second at the other."""
    check_near(song)
    check_place(song, one)
    check_place(song, other)
    check_wishes(song, wishes)
    found = all_strands(song)
    added = wished(song, wishes)
    letters = range(song.letters)
    firsts = [with_letter(added, one, a) for a in letters]
    return Table([[least_bound(found, with_letter(begun, other, b)) for b in letters] for begun in firsts])


def letters_met(song, allowed):
    """Return for each place the tuple of the letters that some row with the allowed letters has there."""
    found = all_strands(song)
    return [letters_with_ways(ways_at(found, allowed, place)) for place in range(song.length)]


def letters_with_ways(ways):
    """Return the tuple of the letters that some row has."""
    return tuple([letter for letter, many in enumerate(ways) if many > 0])
