"""How many allowed rows of a near song have one of some letters at each place.

Which letters may stand at a place is a list with 1 for each letter that may, and 0 for each other one.
"""

from echofold.strands import Line
from echofold.tables import turned_rows
from echofold.wishes import wished


def letters_allowed(song, fixed):
    """Return for each place which letters may stand there: only the fixed one where there is one."""
    given = {} if fixed is None else fixed
    free = [[1] * song.letters for _ in range(song.length)]
    return [kept(marks, given[place]) if place in given else marks for place, marks in enumerate(free)]


def kept(marks, letter):
    """Return which letters may stand at a place if only this one of them does."""
    return [mark if a == letter else 0 for a, mark in enumerate(marks)]


def begun_with(allowed, row):
    """Return which letters may stand at each place if the first places have the letters of this row."""
    return [kept(marks, letter) for marks, letter in zip(allowed, row)] + allowed[len(row):]


def letters_not_barred(song, wishes):
    """Return for each place which letters may stand there: all but those whose wish is None."""
    return [[0 if worth is None else 1 for worth in wish] for wish in wished(song, wishes)]


def row_total(found, allowed):
    """Return the number of the rows; found are all strands."""
    return sum(ways_at(found, allowed, 0))


def ways_at(found, allowed, place):
    """Return for each letter the number of the rows that have it at this place; found are all strands."""
    others = 1
    own = []
    for strand in found:
        if place in strand:
            own = strand_ways(strand, allowed, place)
        else:
            others = others * sum(strand_ways(strand, allowed, strand.places[0]))
    return [others * many for many in own]


def strand_ways(strand, allowed, place):
    """Return for each letter in how many ways the strand has it at its place."""
    at = strand.places.index(place)
    if isinstance(strand, Line):
        sooner = ways_on(strand.hops[:at], allowed[strand.places[0]], allowed)
        later = ways_back(strand.hops[at:], allowed[strand.places[-1]], allowed)
        return [one * other for one, other in zip(sooner, later)]
    around = strand.hops[at:] + strand.hops[:at]
    # A ring comes back to the place: each letter there has to be followed by itself.
    firsts = [kept(allowed[place], letter) for letter in range(len(allowed[place]))]
    return [ways_on(around, marks, allowed)[letter] if marks[letter] == 1 else 0 for letter, marks in enumerate(firsts)]


def ways_on(hops, ways, allowed):
    """Return the ways for each letter behind these hops, where so many lead to each letter before them."""
    for _, there, table in hops:
        columns = turned_rows(table.rows)
        ways = [mark * fitting(column, ways) for mark, column in zip(allowed[there], columns)]
    return ways


def ways_back(hops, ways, allowed):
    """Return the ways for each letter before these hops, where so many lead on from each letter behind them."""
    for here, _, table in reversed(hops):
        ways = [mark * fitting(row, ways) for mark, row in zip(allowed[here], table.rows)]
    return ways


def fitting(prices, ways):
    """Return the sum of the ways at which the price is not barred."""
    return sum([many for price, many in zip(prices, ways) if price is not None])
