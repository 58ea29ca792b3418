"""Songs of up to 10 ** 30 places for the tests, and their strands worked out by folding from gap to gap, as [10] tells."""

import math

from echofold.songs import Song
from tests.reference import made_song

FAR = 10 ** 30
GOLDEN = 618033988749894848204586834365


def far_measures():
    """Tuples (length, delays) at the bounds that the document names, and between them."""
    half, third = FAR // 2, FAR // 3
    found = [(FAR, ()), (41, ()), (FAR, (1,)), (FAR, (3,)), (FAR, (FAR - 1,)), (FAR, (FAR,)), (FAR - 1, (FAR,)), (1, (FAR,)),
             (FAR, (third,)), (FAR, (GOLDEN,)), (41, (40,)), (41, (1,)), (10 ** 29 + 7, (10 ** 15 + 1,))]
    pairs = [(half, half), (half, half + 1), (third, FAR - third), (FAR - third, third + 1), (1, FAR), (FAR, 1), (2, FAR), (FAR, 3),
             (7, FAR - 7), (FAR - 7, 7), (GOLDEN, FAR - GOLDEN), (FAR - GOLDEN, GOLDEN + 5), (GOLDEN, GOLDEN), (6 * 10 ** 29, 4 * 10 ** 29),
             (10 ** 15, FAR), (FAR, FAR), (FAR - 1, FAR), (GOLDEN, FAR), (10 ** 29 * 9, 10 ** 29 * 6), (12345678901234567890, 98765432109876543210),
             (2 ** 99, 3 ** 62), (10 ** 20, 10 ** 20 + 10 ** 10), (123456789, 10 ** 25 + 1), (20, 21), (41, 41), (27, 15)]
    for delays in pairs:
        least, reach = min(delays), sum(delays)
        part = math.gcd(*delays)
        lengths = [reach, reach - 1, reach - part, reach - part + 1, reach - part // 2, reach - 3 * part // 2, max(delays), least, least + 1,
                   least // 2, reach - least // 3, 41, 1]
        found += [(length, delays) for length in sorted(set(lengths)) if 1 <= length <= min(FAR, reach)]
    return found


def far_made_songs(letters, step=1):
    """Songs of these measures, with tables of all kinds."""
    return [made_song(letters, length, delays, seed) for seed, (length, delays) in enumerate(far_measures())][::step]


def multiplied(song, times):
    """The song so many times as long, with so many times the delays."""
    return Song(song.letters, song.length * times, *[(delay * times, table) for delay, table in song.echoes])


def multiples(song):
    """Numbers of times up to the greatest one by which the song can be multiplied."""
    most = FAR // max(song.length, *song.delays)
    return sorted({times for times in (1, 2, 3, 41, 10 ** 15 + 3, most // 2 + 1, most - 1, most) if 1 <= times <= most})


def powered(part, many, unit, times):
    """So many parts one after another."""
    whole = unit
    for digit in bin(many)[2:]:
        whole = times(whole, whole)
        if digit == "1":
            whole = times(whole, part)
    return whole


def folded_strands(song, on, back, unit, times):
    """The lists (lines, rings) of tuples (what the hops from the first to the last place, or once around, come to, how many).

    Where a ring begins is not told. From gap to gap, each way ends with a hop on and, if it is longer than a hop, begins with
    a hop back. So of a folded hop on all but the last hop is kept, of a folded hop back all but the first one.
    """
    (d, e), n = song.delays, song.length
    before, behind, inner_on, inner_back = unit, unit, None, None
    while 0 < min(d, e) <= n:
        if d <= e:
            many = min(e, n) // d
            inner_back = times(times(behind, powered(times(before, on), many - 1, unit, times)), before)
            behind = times(inner_back, on)
            e -= many * d
        else:
            many = min(d, n) // e
            inner_on = times(times(behind, powered(times(back, behind), many - 1, unit, times)), before)
            before = times(back, inner_on)
            d -= many * e
        # The gaps stay as many as they were.
        n = d + e - (sum(song.delays) - song.length)
    if e == 0:
        return [(inner_back, d - n)] * (d > n), [(times(back, behind), n)] * (n > 0)
    if d == 0:
        return [(inner_on, e - n)] * (e > n), [(times(before, on), n)] * (n > 0)
    lines = [(inner_on, e - n), (inner_back, d - n), (times(behind, before), n)]
    return [(line, many) for line, many in lines if line is not None and many > 0], []
