"""Promises 2, 3, 5, 7, 8 and 10 and the section of echofold/along.py."""

import itertools
import unittest

from echofold import along as module
from echofold.along import least_with, table_along
from echofold.errors import InvalidNumber, InvalidPlace, InvalidWishes
from echofold.folds import least_price, shape_tables
from echofold.lightest import lightest
from echofold.shapes import place_at, shapes, strand_of
from echofold.songs import Song
from echofold.strands import next_place, place_before
from echofold.tables import Table
from tests.far import FAR, GOLDEN, far_made_songs, far_measures, multiplied, multiples, powered
from tests.reference import (ORDERS, all_rows, composed, great_songs, least_of, least_price_of, likeness, made_song, made_wishes,
                             price_of, small_songs, strands_of, sum_of, times)
from tests.samples import HUGE, CallCase, no_integers, wrong_wishes

U = Table(((None, 0), (0, None)))
C = Table(((0, 1), (2, 0)))
BARS = Table([[None] * 2] * 2)


def few_wishes(song, seed):
    """Wishes of all kinds, at twenty places at most."""
    wishes = made_wishes(song, seed) or {}
    return dict(list(wishes.items())[:20])


def spread(song, seed):
    """Places of a far song near which something may change, twenty at most; some are on the same strand."""
    d, e = song.delays
    marks = [0, song.length - 1, d, e, d - 1, e - 1, song.length - d, song.length - e, song.length // 2, song.length // 3, GOLDEN]
    places = sorted({mark for mark in marks if 0 <= mark < song.length})[seed % 2::2]
    for place in list(places):
        for hops in (1, 2, 10 ** 12, 10 ** 25):
            try:
                places.append(place_at(song, place, hops))
            except InvalidNumber:
                break
    return sorted(set(places))[:20]


class TestInterface(unittest.TestCase):
    def test_everything_is_defined_in_its_place(self):
        for name in ("table_along", "least_with"):
            self.assertEqual(getattr(module, name).__module__, "echofold.along")


class TestTableAlong(CallCase):
    def test_the_example(self):
        self.assertEqual(table_along(Song(2, 4, (2, C), (3, U)), 1, 2).rows, ((1, 0), (0, 2)))

    def check(self, song, place, hops, want):
        found = self.leaves_alone(table_along, song, place, hops)
        self.assertIs(type(found), Table)
        self.assertEqual(found.rows, want)

    def check_strand(self, song, strand):
        """Every place, and every number of hops up to more than twice around."""
        kind, places, tables = strand
        many = len(places)
        for at, place in enumerate(places):
            want = likeness(song.letters)
            for hops in range(2 * many + 2 if kind == "ring" else many - at):
                self.check(song, place, hops, want)
                if kind == "ring" or at + hops < many - 1:
                    want = composed(want, tables[(at + hops) % many])
            if kind == "line":
                for hops in (many - at, many - at + 1, song.length + 1, FAR):
                    self.refuses(InvalidNumber, "value", hops, table_along, song, place, hops)

    def test_small_songs(self):
        for song in small_songs(40):
            for strand in strands_of(song):
                self.check_strand(song, strand)

    def test_all_songs_with_small_delays(self):
        for d, e in itertools.product(range(1, 8), repeat=2):
            for length in range(1 + (d + e) % 2, d + e + 1, 2):
                song = made_song(2, length, (d, e), d * 7 + e + length)
                for strand in strands_of(song)[:2]:
                    self.check_strand(song, strand)

    def test_rings_around_and_around(self):
        for song in [song for song in small_songs(40) + great_songs(3) if shapes(song)[-1][0] == "ring"]:
            kind, places, tables = [strand for strand in strands_of(song) if strand[0] == "ring"][-1]
            for at in (0, len(places) // 2):
                around = tables[at:] + tables[:at]
                whole = likeness(song.letters)
                for rows in around:
                    whole = composed(whole, rows)
                want = powered(whole, FAR // len(places), likeness(song.letters), composed)
                for rows in around[:FAR % len(places)]:
                    want = composed(want, rows)
                self.check(song, places[at], FAR, want)
                self.refuses_number(InvalidNumber, "value", FAR + 1, table_along, song, places[at], FAR + 1)

    def test_far_songs_hop_by_hop(self):
        for song in far_made_songs(2)[::2] + far_made_songs(4)[1::20]:
            back = -song.echoes[1][1] if len(song.echoes) > 1 else None
            for place in spread(song, 0):
                following = next_place(song, place)
                self.check(song, place, 0, likeness(song.letters))
                if following is None:
                    self.refuses(InvalidNumber, "value", 1, table_along, song, place, 1)
                else:
                    table = song.echoes[0][1] if following > place else back
                    self.check(song, place, 1, table.rows)

    def test_far_songs_in_two_parts(self):
        for song in far_made_songs(2)[::2] + far_made_songs(3)[1::9] + far_made_songs(5)[2::50]:
            for place in spread(song, 1)[:6]:
                kind, first, spot = strand_of(song, place)
                whole = table_along(song, first, spot)
                for part in sorted({0, 1, spot // 2, spot // 3, spot - 1, spot}):
                    if 0 <= part <= spot:
                        rest = table_along(song, place_at(song, first, part), spot - part)
                        self.assertEqual(table_along(song, first, part) * rest, whole)

    def test_whole_strands_of_far_songs(self):
        for song in far_made_songs(2):
            for shape, table in zip(shapes(song), shape_tables(song)):
                if shape[0] == "ring":
                    self.assertEqual(table_along(song, 0, shape[1]) if shape[1] <= FAR else table, table)
            for place in spread(song, 0)[:4]:
                kind, first, _ = strand_of(song, place)
                if kind == "line":
                    found = {}
                    for shape, table in zip(shapes(song), shape_tables(song)):
                        if shape[0] == "line" and self.ends_at(song, first, shape[1] - 1):
                            found[shape] = table
                            self.check(song, first, shape[1] - 1, table.rows)
                            self.refuses_number(InvalidNumber, "value", shape[1], table_along, song, first, shape[1])
                    self.assertEqual(len(found), 1)

    def ends_at(self, song, first, hops):
        try:
            return next_place(song, place_at(song, first, hops)) is None
        except InvalidNumber:
            return False

    def test_multiplied_songs(self):
        for song in small_songs(40)[::9] + great_songs(3)[::4]:
            for many in multiples(song)[-3:]:
                wide = multiplied(song, many)
                for kind, places, _ in strands_of(song)[:2]:
                    for hops in {0, 1, len(places) // 2, len(places) - 1} & set(range(len(places))):
                        for more in {0, many - 1}:
                            self.check(wide, places[0] * many + more, hops, table_along(song, places[0], hops).rows)

    def test_one_echo_composed_of_itself(self):
        rows = Table([[3, None, 1], [0, 2, 5], [None, 7, 4]])
        for hops in (0, 1, 2, 41, GOLDEN, FAR - 1):
            self.check(Song(3, FAR, (1, rows)), 0, hops, rows.again(hops).rows)
            self.check(Song(3, FAR, (FAR, rows), (1, rows)), FAR - 1, hops, (-rows).again(hops).rows)
        self.refuses_number(InvalidNumber, "value", FAR, table_along, Song(3, FAR, (1, rows)), 0, FAR)

    def test_arguments(self):
        self.checks_song(table_along, ["place", "hops"], near=False)
        for song, last in ((Song(2, 4, (2, U), (3, U)), 1), (Song(1, 1), 0), (Song(2, FAR, (3, U)), FAR // 3), (Song(2, 5, (2, U), (3, U)), FAR)):
            hops = no_integers(0, last) + [HUGE, -HUGE]
            self.checks_arguments(table_along, song, ("place", InvalidPlace, 0, no_integers(0, song.length - 1)), ("hops", InvalidNumber, 0, hops))
            self.takes_names(table_along, song, place=0, hops=last)


class TestLeastWith(CallCase):
    def test_the_example(self):
        self.assertEqual(least_with(Song(2, FAR, (1, U)), {0: (5, 1), FAR - 1: (7, 2)}), 7)

    def check(self, song, wishes, want):
        found = self.leaves_alone(least_with, song, wishes)
        self.assertEqual(found, want)
        self.assertIn(type(found), (int, type(None)))

    def test_all_rows_of_small_songs(self):
        for seed, song in enumerate(small_songs()):
            for wishes in ({}, few_wishes(song, seed), few_wishes(song, seed + 3)):
                self.check(song, wishes, least_of([price_of(song, row, wishes) for row in all_rows(song)]))

    def test_all_songs_with_small_delays(self):
        for d, e in itertools.product(range(1, 8), repeat=2):
            for length in range(1, d + e + 1):
                song = made_song(2 + length % 2, length, (d, e), d * 7 + e + length)
                wishes = few_wishes(song, d + e + length)
                self.check(song, wishes, least_price_of(song, wishes, range(length)))

    def test_songs_of_forty_places(self):
        for seed, song in enumerate(great_songs() + great_songs(3, 39)):
            wishes = few_wishes(song, seed)
            self.check(song, wishes, least_price_of(song, wishes, [place for place in ORDERS[seed % 3] if place < song.length]))
            found = lightest(song, wishes)
            self.check(song, wishes, found[1] if found[0] == "row" else None)

    def test_multiplied_songs(self):
        for seed, song in enumerate(small_songs(40)[::5] + great_songs(3)[::3]):
            one, other = [dict(list(few_wishes(song, seed + more).items())[:10]) for more in (0, 4)]
            for many in [many for many in multiples(song) if many > 1][-3:]:
                wide = multiplied(song, many)
                both = {place * many: wish for place, wish in one.items()}
                both.update({place * many + many - 1: wish for place, wish in other.items()})
                rest = times(least_price(song), many - 2) if many > 2 else 0
                self.check(wide, both, sum_of(least_with(song, one), least_with(song, other), rest))

    def test_one_letter(self):
        for seed, (length, delays) in enumerate(far_measures()):
            prices = (7, 10 ** 61 + 3)[:len(delays)]
            song = Song(1, length, *[(delay, Table([[price]])) for delay, price in zip(delays, prices)])
            wishes = {place: (place % 1000,) for place in spread(song, seed)}
            links = sum(price * max(0, length - delay) for delay, price in zip(delays, prices))
            self.check(song, wishes, links + sum(price for price, in wishes.values()))
            self.check(song, {**dict(list(wishes.items())[:19]), 0: (None,)}, None)

    def test_wishes_that_cost_nothing_or_all_the_same(self):
        for seed, song in enumerate(far_made_songs(2)[::3]):
            places = spread(song, seed)
            least = least_price(song)
            self.check(song, {}, least)
            self.check(song, {place: (0, 0) for place in places}, least)
            self.check(song, {place: (10 ** 70, 10 ** 70) for place in places}, sum_of(least, len(places) * 10 ** 70))

    def test_one_place_with_each_letter(self):
        """Some letter is at the place in a lightest row: the least price is the least of those with each letter there."""
        for seed, song in enumerate(far_made_songs(3)[::4]):
            wishes = {place: tuple((place // 7 * a + a * a * 5) % 11 for a in range(3)) for place in spread(song, seed)[:18]}
            for place in spread(song, seed + 1)[:2]:
                around = wishes.get(place, (0, 0, 0))
                each = [least_with(song, {**wishes, place: tuple(p if a == b else None for b, p in enumerate(around))}) for a in range(3)]
                self.check(song, wishes, least_of(each))

    def test_the_ends_of_a_line(self):
        for song in far_made_songs(2)[::2]:
            found = shapes(song)
            tables = shape_tables(song)
            first = max(0, song.length - song.delays[1])
            if found[0][0] == "ring" or place_before(song, first) is not None:
                continue
            [at] = [at for at, shape in enumerate(found) if shape[0] == "line" and TestTableAlong.ends_at(self, song, first, shape[1] - 1)]
            last = place_at(song, first, found[at][1] - 1)
            lows = [least_of([row[a] for a, row in enumerate(table.rows)] if shape[0] == "ring" else [p for row in table.rows for p in row])
                    for shape, table in zip(found, tables)]
            others = sum_of(*[times(low, shape[4] - (spot == at)) for spot, (shape, low) in enumerate(zip(found, lows)) if shape[4] > (spot == at)])
            for a, b in itertools.product(range(2), repeat=2):
                wish = [tuple(0 if letter == c else None for c in range(2)) for letter in (a, b)]
                wishes = {first: wish[0], last: wish[1]} if first != last else {first: wish[0]}
                want = tables[at].rows[a][b] if first != last else 0
                self.check(song, wishes, sum_of(want, others))

    def test_twenty_and_twenty_one_places(self):
        song = Song(2, FAR, (1, U))
        wishes = {place * 10 ** 28: (place, place + 1) for place in range(20)}
        self.check(song, wishes, sum(range(20)))
        more = {**wishes, 1: (0, 0)}
        self.refuses(InvalidWishes, "value", more, least_with, song, more)
        near = {place: (0, 0) for place in range(21)}
        self.refuses(InvalidWishes, "value", near, least_with, Song(2, 40), near)
        del near[7]
        self.check(Song(2, 40), near, 0)

    def test_barred_rows(self):
        self.check(Song(2, FAR, (FAR - 1, BARS)), {}, None)
        self.check(Song(2, FAR), {7: (None, None)}, None)
        self.check(Song(2, FAR, (1, U)), {0: (0, None), FAR - 1: (0, None)}, None)
        self.check(Song(2, FAR, (1, U)), {0: (0, None), FAR - 1: (None, 0)}, 0)
        self.check(Song(2, 5, (2, U), (3, U)), {3: (0, 0)}, None)

    def test_the_only_strand_of_a_shape_that_bars(self):
        song = Song(2, 3, (2, BARS), (3, C))
        self.assertEqual(shapes(song), [("line", 1, 0, 0, 1), ("line", 2, 1, 0, 1)])
        self.check(song, {}, None)
        self.check(song, {0: (0, 0), 1: (1, 1)}, None)
        self.check(Song(2, 3, (2, C), (3, C)), {0: (4, 1), 1: (3, 5), 2: (0, 9)}, 6)

    def test_the_order_of_the_keys(self):
        song = made_song(3, FAR, (GOLDEN, FAR - GOLDEN + 1), 5)
        wishes = {place: (place % 5, place % 3, 0) for place in spread(song, 0)}
        self.check(song, dict(reversed(list(wishes.items()))), least_with(song, wishes))

    def test_arguments(self):
        self.checks_song(least_with, ["wishes"], near=False)
        for song in (Song(2, 4, (2, U), (3, U)), Song(1, 1), Song(2, FAR - 1, (3, U)), Song(5, 41)):
            wrong = [None] + wrong_wishes(song)
            self.checks_arguments(least_with, song, ("wishes", InvalidWishes, {}, wrong))
            self.takes_names(least_with, song, wishes={song.length - 1: (3,) * song.letters})


if __name__ == "__main__":
    unittest.main()
