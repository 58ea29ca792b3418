"""Promises 2, 3, 4, 5, 8, 9 and 10 and the section of echofold/folds.py."""

import itertools
import unittest

from echofold import folds as module
from echofold.counts import row_count
from echofold.errors import InvalidNumber
from echofold.folds import count_rest, least_price, shape_tables
from echofold.lightest import lightest
from echofold.shapes import shapes
from echofold.songs import Song
from echofold.tables import Table
from tests.far import FAR, GOLDEN, far_made_songs, far_measures, folded_strands, multiplied, multiples
from tests.reference import (ORDERS, all_rows, composed, great_songs, least_of, least_price_of, likeness, made_song, price_of,
                             row_count_of, small_songs, strands_of, sum_of, times)
from tests.samples import HUGE, SIXTY, CallCase, no_integers

U = Table(((None, 0), (0, None)))
C = Table(((0, 1), (2, 0)))
BARS = Table([[None] * 2] * 2)
MOST = 10 ** 9
MODULI = (2, 3, 97, MOST - 63, MOST)


def counted(modulus):
    """A way to compose rows of numbers of ways."""
    def both(one, other):
        return tuple(tuple(sum(a * b for a, b in zip(row, column)) % modulus for column in zip(*other)) for row in one)
    return both


def marked(rows):
    """1 for a price, 0 for a barred one."""
    return tuple(tuple(int(price is not None) for price in row) for row in rows)


def tables_walked(song):
    """For each shape the set of the rows of the tables of its strands, by pairs of places."""
    found = {}
    for kind, places, tables in strands_of(song):
        whole = likeness(song.letters)
        for rows in tables:
            whole = composed(whole, rows)
        to = places[1:] + (places[:1] if kind == "ring" else ())
        on = sum(there > here for here, there in zip(places, to))
        found.setdefault((kind, len(places), on, len(to) - on), set()).add(whole)
    return found


def lowest(kind, rows):
    letters = range(len(rows))
    return least_of([rows[a][b] for a in letters for b in letters if kind == "line" or a == b])


def hop_rows(song):
    """The rows of the tables of a hop on and of a hop back; where an echo is missing all is barred."""
    barred = ((None,) * song.letters,) * song.letters
    return tuple((song.echoes[0][1].rows if song.echoes else barred, tuple(zip(*song.echoes[1][1].rows)) if len(song.echoes) > 1 else barred))


class TestInterface(unittest.TestCase):
    def test_everything_is_defined_in_its_place(self):
        for name in ("shape_tables", "least_price", "count_rest"):
            self.assertEqual(getattr(module, name).__module__, "echofold.folds")


class TestShapeTables(CallCase):
    def test_the_example(self):
        self.assertEqual([table.text for table in shape_tables(Song(2, 3, (1, C)))], ["0 1 / 2 0"])

    def check(self, song):
        found = self.leaves_alone(shape_tables, song)
        want = tables_walked(song)
        self.assertEqual([{table.rows} for table in found], [want[shape] for shape in sorted(want)])
        self.assertEqual([type(found)] + [type(table) for table in found], [list] + [Table] * len(want))

    def test_small_songs(self):
        for song in small_songs():
            self.check(song)

    def test_all_songs_with_small_delays(self):
        for d, e in itertools.product(range(1, 8), repeat=2):
            for length in range(1, d + e + 1):
                self.check(made_song(1 + (d + e + length) % 3, length, (d, e), d * 7 + e + length))

    def test_songs_of_forty_places(self):
        for song in great_songs() + great_songs(3, 39):
            self.check(song)

    def test_all_letters_of_short_strands(self):
        for song in [song for song in small_songs(300) if song.letters < 4][::3]:
            for shape, table in zip(shapes(song), shape_tables(song)):
                kind, _, tables = [strand for strand in strands_of(song) if (strand[0], len(strand[1])) == shape[:2]][0]
                prices = {}
                for row in itertools.product(range(song.letters), repeat=len(tables) + 1):
                    price = sum_of(*[rows[a][b] for rows, a, b in zip(tables, row, row[1:])])
                    prices.setdefault((row[0], row[-1]), []).append(price)
                for a, b in itertools.product(range(song.letters), repeat=2):
                    self.assertEqual(table.rows[a][b], least_of(prices.get((a, b), [])))

    def test_far_lines_folded_from_gap_to_gap(self):
        for song in far_made_songs(2) + far_made_songs(3)[::5] + far_made_songs(5)[2::40]:
            lines, _ = folded_strands(song, *hop_rows(song), likeness(song.letters), composed)
            steps, _ = folded_strands(song, (1, 0), (0, 1), (0, 0), lambda one, other: (one[0] + other[0], one[1] + other[1]))
            want = sorted((on + back + 1, rows) for ((on, back), _), (rows, _) in zip(steps, lines))
            found = [table for shape, table in zip(shapes(song), shape_tables(song)) if shape[0] == "line"]
            self.assertEqual([table.rows for table in found], [rows for _, rows in want])

    def test_multiplied_songs(self):
        for song in small_songs(40)[::7] + great_songs(3)[::3]:
            want = shape_tables(song)
            for many in multiples(song):
                self.assertEqual(shape_tables(multiplied(song, many)), want)

    def test_songs_without_links(self):
        for song in (Song(3, 1), Song(3, FAR), Song(3, FAR, (FAR, Table.silence(3))), Song(3, FAR, (FAR, Table.silence(3)), (FAR, Table.silence(3)))):
            self.assertEqual(shape_tables(song), [Table.likeness(3)])

    def test_one_echo_composed_of_itself(self):
        rows = Table([[3, None, 1], [0, 2, 5], [None, 7, 4]])
        self.assertEqual(shape_tables(Song(3, FAR, (1, rows))), [rows.again(FAR - 1)])
        self.assertEqual(shape_tables(Song(3, FAR, (FAR, rows), (1, rows))), [(-rows).again(FAR - 1)])
        self.assertEqual(shape_tables(Song(3, FAR, (3, rows))), [rows.again(FAR // 3 - 1), rows.again(FAR // 3)])
        self.assertEqual(shape_tables(Song(3, FAR, (1, rows), (FAR - 1, U3))), [rows.again(FAR - 1) * -U3])

    def test_a_result_may_be_changed(self):
        song = Song(2, FAR, (3, U))
        shape_tables(song).clear()
        self.assertEqual(len(shape_tables(song)), 2)

    def test_arguments(self):
        self.checks_song(shape_tables, [], near=False)
        self.takes_names(shape_tables, Song(2, FAR, (3, U)))


U3 = Table([[0, 1, 2], [None, 0, 9], [4, None, 6]])


class TestLeastPrice(CallCase):
    def test_the_example(self):
        self.assertIs(least_price(Song(2, 5, (2, U), (3, U))), None)

    def check(self, song, want):
        found = self.leaves_alone(least_price, song)
        self.assertEqual(found, want)
        self.assertIn(type(found), (int, type(None)))

    def test_all_rows_of_small_songs(self):
        for song in small_songs():
            self.check(song, least_of([price_of(song, row) for row in all_rows(song)]))

    def test_all_songs_with_small_delays(self):
        for d, e in itertools.product(range(1, 8), repeat=2):
            for length in range(1, d + e + 1):
                song = made_song(2 + length % 2, length, (d, e), d * 7 + e + length)
                self.check(song, least_price_of(song, None, range(length)))

    def test_songs_of_forty_places(self):
        for seed, song in enumerate(great_songs() + great_songs(3, 39)):
            self.check(song, least_price_of(song, None, [place for place in ORDERS[seed % 3] if place < song.length]))
            found = lightest(song)
            self.check(song, found[1] if found[0] == "row" else None)

    def test_far_songs_folded_from_gap_to_gap(self):
        for song in far_made_songs(2) + far_made_songs(4)[1::30]:
            lines, rings = folded_strands(song, *hop_rows(song), likeness(song.letters), composed)
            want = [times(lowest("line", rows), many) for rows, many in lines] + [times(lowest("ring", rows), many) for rows, many in rings]
            self.check(song, sum_of(*want))

    def test_one_letter_meets_itself_at_each_link(self):
        for length, delays in far_measures():
            prices = (7, 10 ** 61 + 3)[:len(delays)]
            song = Song(1, length, *[(delay, Table([[price]])) for delay, price in zip(delays, prices)])
            self.check(song, sum(price * max(0, length - delay) for delay, price in zip(delays, prices)))

    def test_multiplied_songs(self):
        for song in small_songs(40)[::5] + great_songs(3)[::3]:
            for many in multiples(song):
                self.check(multiplied(song, many), times(least_price(song), many))

    def test_all_rows_are_barred(self):
        for song in (Song(2, FAR, (FAR - 1, BARS)), Song(2, FAR, (FAR // 2 + 1, C), (FAR // 2, BARS)), Song(2, 5, (1, U), (4, U)),
                     Song(2, FAR - 1, (FAR // 2, U), (FAR // 2 - 1, U))):
            self.check(song, None)

    def test_tables_of_echoes_that_nothing_meets(self):
        self.check(Song(2, FAR, (FAR, BARS), (FAR, BARS)), 0)
        self.check(Song(2, FAR, (1, C), (FAR, BARS)), 0)
        self.check(Song(2, FAR, (FAR, BARS), (1, U)), 0)

    def test_great_prices(self):
        rows = Table([[HUGE, 10 ** 70], [10 ** 90, None]])
        self.check(Song(2, 2, (1, rows)), 10 ** 70)
        self.check(Song(2, FAR, (1, rows)), FAR // 2 * 10 ** 70 + (FAR // 2 - 1) * 10 ** 90)
        self.check(Song(2, FAR, (FAR - 1, Table([[HUGE] * 2] * 2))), HUGE)

    def test_arguments(self):
        self.checks_song(least_price, [], near=False)
        self.takes_names(least_price, Song(2, FAR, (3, U)))


class TestCountRest(CallCase):
    def test_the_example(self):
        self.assertEqual(count_rest(Song(2, FAR, (1, U)), 1000), 2)

    def check(self, song, modulus, want):
        found = self.leaves_alone(count_rest, song, modulus)
        self.assertEqual(found, want)
        self.assertIs(type(found), int)

    def test_all_rows_of_small_songs(self):
        for song in small_songs():
            many = sum(price_of(song, row) is not None for row in all_rows(song))
            for modulus in MODULI:
                self.check(song, modulus, many % modulus)

    def test_all_songs_with_small_delays(self):
        for d, e in itertools.product(range(1, 8), repeat=2):
            for length in range(1, d + e + 1):
                song = made_song(2 + length % 4, length, (d, e), d * 7 + e + length)
                many = row_count_of(song, range(length))
                for modulus in (MOST, 2 + (d + e) * length):
                    self.check(song, modulus, many % modulus)

    def test_songs_of_forty_places(self):
        for seed, song in enumerate(great_songs() + great_songs(3, 39)):
            many = row_count_of(song, [place for place in ORDERS[seed % 3] if place < song.length])
            for modulus in MODULI:
                self.check(song, modulus, many % modulus)
                self.check(song, modulus, row_count(song) % modulus)

    def test_far_songs_folded_from_gap_to_gap(self):
        for seed, song in enumerate(far_made_songs(2) + far_made_songs(5)[1::8]):
            modulus = MODULI[seed % 5]
            unit = tuple(tuple(int(a == b) for b in range(song.letters)) for a in range(song.letters))
            on, back = hop_rows(song)
            lines, rings = folded_strands(song, marked(on), marked(back), unit, counted(modulus))
            want = 1
            for rows, many in lines:
                want *= pow(sum(map(sum, rows)), many, modulus)
            for rows, many in rings:
                want *= pow(sum(rows[a][a] for a in range(song.letters)), many, modulus)
            self.check(song, modulus, want % modulus)

    def test_multiplied_songs(self):
        for song in small_songs(40)[::5] + great_songs(3)[::3]:
            for many in multiples(song):
                for modulus in (2, MOST):
                    self.check(multiplied(song, many), modulus, pow(row_count(song), many, modulus))

    def test_every_row_is_allowed(self):
        for letters in (1, 2, 5):
            for length, delays in far_measures()[::3]:
                song = Song(letters, length, *[(delay, Table.silence(letters)) for delay in delays])
                for modulus in MODULI:
                    self.check(song, modulus, pow(letters, length, modulus))

    def test_equal_letters_along_each_strand(self):
        for letters in (2, 5):
            for length, delays in far_measures()[1::3]:
                song = Song(letters, length, *[(delay, Table.likeness(letters)) for delay in delays])
                self.check(song, MOST, pow(letters, sum(shape[4] for shape in shapes(song)), MOST))

    def test_rings_around_with_unlike_letters(self):
        self.check(Song(2, FAR, (FAR - 1, U), (1, U)), MOST, 2)
        self.check(Song(2, FAR - 1, (FAR - 2, U), (1, U)), MOST, 0)
        self.check(Song(2, FAR, (GOLDEN, U), (FAR - GOLDEN, U)), MOST, pow(2, 5, MOST))

    def test_no_row_is_allowed(self):
        for modulus in MODULI:
            self.check(Song(2, FAR, (FAR - 1, BARS)), modulus, 0)
            self.check(Song(2, 5, (2, U), (3, U)), modulus, 0)

    def test_prices_do_not_count(self):
        self.check(Song(2, 3, (1, Table([[HUGE, 5], [61, None]]))), MOST, 5)

    def test_arguments(self):
        self.checks_song(count_rest, ["modulus"], near=False)
        for song in (Song(2, 4, (2, U), (3, U)), Song(1, 1), Song(2, FAR, (3, U)), Song(5, 41)):
            self.checks_arguments(count_rest, song, ("modulus", InvalidNumber, 2, no_integers(2, MOST) + [0, 1, -2, HUGE, SIXTY]))
            self.takes_names(count_rest, song, modulus=MOST)


if __name__ == "__main__":
    unittest.main()
