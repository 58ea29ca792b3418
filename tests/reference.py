"""What the document says, worked out in other ways than the program does: by all pairs of places, by all rows, and
for songs with too many rows by taking one place after another out of the song, in any order."""

import itertools

from echofold.songs import Song
from echofold.tables import Table
from tests.samples import made_rows


# Orders in which forty places may be taken out of a song.
ORDERS = [list(range(40)), list(range(39, -1, -1)), sorted(range(40), key=lambda place: (place % 3, place % 7, place))]


def top(price):
    """A key by which None is greater than every integer."""
    return (price is None, 0 if price is None else price)


def least_of(prices):
    return min(prices, key=top, default=None)


def sum_of(*prices):
    return None if None in prices else sum(prices)


def links_of(song):
    """All links (lesser place, greater place, index), by going through all pairs of places."""
    places = range(song.length)
    return [(i, j, index) for i in places for j in places for index, (delay, _) in enumerate(song.echoes) if j - i == delay]


def price_of(song, row, wishes=None):
    found = [song.echoes[index][1].rows[row[i]][row[j]] for i, j, index in links_of(song)]
    return sum_of(*found, *[prices[row[place]] for place, prices in (wishes or {}).items()])


def all_rows(song):
    return list(itertools.product(range(song.letters), repeat=song.length))


def hops_of(song):
    """From each place with a hop to a tuple (next place, rows of the table of the hop)."""
    hops = {}
    for i, j, index in links_of(song):
        rows = song.echoes[index][1].rows
        here, hop = ((i, (j, rows)), (j, (i, tuple(zip(*rows)))))[index]
        assert here not in hops
        hops[here] = hop
    return hops


def strands_of(song):
    """For each strand a tuple (kind, places, rows of the tables of its hops), by putting together groups of places."""
    hops = hops_of(song)
    group = {place: {place} for place in range(song.length)}
    for here, (there, _) in hops.items():
        if group[here] is not group[there]:
            both = group[here] | group[there]
            group.update(dict.fromkeys(both, both))
    targets = [there for there, _ in hops.values()]
    found = []
    for least in sorted({min(places) for places in group.values()}):
        ends = [place for place in group[least] if place not in targets]
        places = [ends[0] if ends else least]
        while len(places) < len(group[least]):
            places.append(hops[places[-1]][0])
        found.append(("line" if ends else "ring", tuple(places), [hops[place][1] for place in places if place in hops]))
    return found


def taken_out(song, order, value, times, plus, wishes=None):
    """Put together the values of all rows by taking the places out of the song in this order.

    A factor is a tuple of places and a dict from their letters to a value; taking out a place joins its factors into one
    of its neighbours. value makes a value of a price.
    """
    letters = range(song.letters)
    factors = [((i, j), {(a, b): value(song.echoes[index][1].rows[a][b]) for a in letters for b in letters})
               for i, j, index in links_of(song)]
    factors += [((place,), {(a,): value((wishes or {}).get(place, (0,) * song.letters)[a]) for a in letters})
                for place in range(song.length)]
    for place in order:
        joined = [factor for factor in factors if place in factor[0]]
        factors = [factor for factor in factors if place not in factor[0]]
        beside = sorted({other for scope, _ in joined for other in scope} - {place})
        table = {}
        for around in itertools.product(letters, repeat=len(beside)):
            ways = []
            for letter in letters:
                at = {**dict(zip(beside, around)), place: letter}
                way = value(0)
                for scope, part in joined:
                    way = times(way, part[tuple(at[other] for other in scope)])
                ways.append(way)
            table[around] = ways[0]
            for way in ways[1:]:
                table[around] = plus(table[around], way)
        factors.append((tuple(beside), table))
    whole = value(0)
    for _, table in factors:
        whole = times(whole, table[()])
    return whole


def least_price_of(song, wishes, order):
    return taken_out(song, order, lambda price: price, sum_of, lambda one, other: least_of([one, other]), wishes)


def counts_of(song, most, wishes, order):
    """The numbers of rows by price, in one integer: 5 ** 40 rows need 93 binary digits for each price."""
    width = 100
    mask = (1 << width * (most + 1)) - 1
    found = taken_out(song, order, lambda price: 0 if price is None or price > most else 1 << width * price,
                      lambda one, other: one * other & mask, lambda one, other: one + other, wishes)
    return [found >> width * price & (1 << width) - 1 for price in range(most + 1)]


def row_count_of(song, order, wishes=None):
    return taken_out(song, order, lambda price: 0 if price is None else 1, lambda one, other: one * other,
                     lambda one, other: one + other, wishes)


def fixed_as_wishes(song, fixed):
    return {place: tuple(0 if a == letter else None for a in range(song.letters)) for place, letter in (fixed or {}).items()}


def bound_of(song, wishes, record):
    """The bound of a record that holds, each of its heights held against each sum by itself; "wrong" for any other."""
    found = strands_of(song)
    if type(record) is not list or len(record) != len(found):
        return "wrong"
    bounds = []
    for (kind, places, tables), entry in zip(found, record):
        if kind == "ring":
            if type(entry) is not list or len(entry) != song.letters:
                return "wrong"
            if not all(heights_hold(song, wishes, places, tables, heights, [c]) for c, heights in enumerate(entry)):
                return "wrong"
            bounds.append(least_of([sum_of(heights[-1][a], tables[-1][a][c])
                                    for c, heights in enumerate(entry) for a in range(song.letters)]))
        else:
            if not heights_hold(song, wishes, places, tables, entry, range(song.letters)):
                return "wrong"
            bounds.append(least_of(entry[-1]))
    return sum_of(*bounds)


def heights_hold(song, wishes, places, tables, heights, firsts):
    letters = range(song.letters)
    if type(heights) is not list or len(heights) != len(places):
        return False
    if not all(type(level) is tuple and len(level) == song.letters for level in heights):
        return False
    if not all(height is None or type(height) is int for level in heights for height in level):
        return False
    wish = [(wishes or {}).get(place, (0,) * song.letters) for place in places]
    if not all(top(heights[0][c]) <= top(wish[0][c]) for c in firsts):
        return False
    return all(top(heights[at][b]) <= top(sum_of(heights[at - 1][a], tables[at - 1][a][b], wish[at][b]))
               for at in range(1, len(places)) for a in letters for b in letters)


def is_row_by_hand(song, value):
    return type(value) is tuple and len(value) == song.length and all(
        type(letter) is int and 0 <= letter < song.letters for letter in value)


def is_wishes_by_hand(song, value):
    return type(value) is dict and all(
        type(place) is int and 0 <= place < song.length and type(prices) is tuple and len(prices) == song.letters
        and all(price is None or (type(price) is int and price >= 0) for price in prices) for place, prices in value.items())


def is_fixed_by_hand(song, value):
    return type(value) is dict and all(
        type(place) is int and 0 <= place < song.length and type(letter) is int and 0 <= letter < song.letters
        for place, letter in value.items())


def made_song(letters, length, delays, seed=0):
    """A song with a table of its own for each echo; some seeds bar no pair, all pairs, or all but some."""
    def table(index):
        rows = made_rows(letters, seed + index)
        if seed % 5 == 1:
            rows = [[price or 0 for price in row] for row in rows]
        if seed % 5 == 2:
            rows = [[None if (a + b + index) % 3 == 0 else 0 for b in range(letters)] for a in range(letters)]
        if seed % 5 == 3:
            rows = [[None if price is None else price % 3 for price in row] for row in rows]
        if seed % 15 == 14:
            rows = [[None] * letters] * letters
        return Table(rows)
    return Song(letters, length, *[(delay, table(index)) for index, delay in enumerate(delays)])


def small_delays():
    """No, one and two delays: equal ones, ones with a common divisor, ones beyond the length."""
    single = [(), (1,), (2,), (3,), (9,)]
    return single + [(d, e) for d in (1, 2, 3, 4, 6) for e in (1, 2, 3, 4, 6)] + [(1, 10 ** 30), (10 ** 30, 2), (5, 40)]


def small_songs(most_rows=130):
    """Songs of 1 to 5 letters with at most so many rows, of each length up to the sum of the delays."""
    found = []
    for letters in (1, 2, 3, 5):
        for delays in small_delays():
            for length in range(1, (sum(delays) if len(delays) == 2 else 8) + 1):
                if length > 8 or letters ** length > most_rows:
                    break
                found.append(made_song(letters, length, delays, len(found)))
    return found


def great_delays():
    """Delays of songs of forty places, with rings, lines, and both together."""
    return [(), (1,), (7,), (39,), (40,), (41,), (10 ** 30,), (20, 20), (25, 25), (40, 40), (1, 39), (39, 1), (13, 27), (27, 13),
            (10, 30), (30, 10), (15, 25), (16, 24), (24, 17), (12, 30), (21, 28), (22, 22), (24, 18), (30, 12), (36, 9), (8, 36),
            (1, 40), (40, 1), (17, 31), (2, 10 ** 30), (10 ** 30, 3), (10 ** 30, 10 ** 30), (45, 45), (33, 11), (18, 24)]


def great_songs(letters=5, length=40):
    """Songs of so many places, for all kinds of delays that let them be so long."""
    return [made_song(letters, length, delays, seed) for seed, delays in enumerate(great_delays())
            if len(delays) < 2 or sum(delays) >= length]


def made_wishes(song, seed):
    """No wishes, wishes at no, one, some and all places, and ones that bar a letter or all letters of a place."""
    def wish(place):
        prices = [(place * 5 + a * 3 + seed) % 7 for a in range(song.letters)]
        if seed % 3 == 1:
            prices[(place + seed) % song.letters] = None
        return tuple(prices)
    kind = seed % 7
    if kind < 2:
        return (None, {})[kind]
    if kind == 2:
        return {song.length - 1: wish(0)}
    if kind == 3:
        return {place: wish(place) for place in range(song.length)}
    if kind == 4:
        return {place: wish(place) for place in range(song.length - 1, -1, -2)}
    if kind == 5:
        return {0: (None,) * song.letters}
    return {place: tuple(10 ** 70 + price * 10 ** 69 for price in (0, 3, 1, 2, 4)[:song.letters])
            for place in range(0, song.length, 3)}


def made_fixed(song, seed):
    """No fixed letters, ones at no, one, some and all places."""
    def letter(place):
        return (place * 3 + place // 2 + seed) % song.letters
    kind = seed % 6
    if kind < 2:
        return (None, {})[kind]
    if kind == 2:
        return {song.length - 1: letter(0)}
    if kind == 3:
        return {place: letter(place) for place in range(song.length)}
    return {place: letter(place) for place in range(song.length - 1, -1, 1 - kind)}


def composed(one, other):
    """Rows composed, entry by entry."""
    letters = range(len(one))
    return tuple(tuple(least_of([sum_of(one[a][c], other[c][b]) for c in letters]) for b in letters) for a in letters)


def likeness(letters):
    return tuple(tuple(0 if a == b else None for b in range(letters)) for a in range(letters))


def times(price, many):
    return None if price is None else price * many
