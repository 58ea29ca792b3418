"""Promises 2, 3 and 8 and the section of echofold/choices.py."""

import unittest

from echofold import choices as module
from echofold.choices import letters_left, table_between
from echofold.errors import InvalidFixed, InvalidPlace, InvalidWishes
from echofold.songs import Song
from echofold.tables import Table
from tests.reference import (ORDERS, all_rows, fixed_as_wishes, great_songs, least_of, least_price_of, made_fixed, made_song,
                             made_wishes, price_of, row_count_of, small_songs, sum_of)
from tests.samples import HUGE, CallCase, no_integers, wrong_fixed, wrong_wishes

U = Table(((None, 0), (0, None)))
C = Table(((0, 1), (2, 0)))
BARS = Table([[None] * 2] * 2)
BARRED = Song(2, 5, (2, U), (3, U))
SONGS = [Song(2, 4, (2, U), (3, U)), BARRED, Song(2, 5, (3, C), (3, U)), Song(1, 1), Song(5, 2, (1, Table.silence(5)))]


def pinned(song, wishes, one, first, other, second):
    """The wishes with all letters but these barred at the places; None if the places are one and the letters differ."""
    found = dict(wishes or {})
    for place, letter in ((one, first), (other, second)):
        prices = found.get(place, (0,) * song.letters)
        found[place] = tuple(price if a == letter else None for a, price in enumerate(prices))
    return found


class TestInterface(unittest.TestCase):
    def test_everything_is_defined_in_its_place(self):
        for name in ("letters_left", "table_between"):
            self.assertEqual(getattr(module, name).__module__, "echofold.choices")


class TestLettersLeft(CallCase):
    def test_the_example(self):
        self.assertEqual(letters_left(SONGS[0], {3: 1}), [(0,), (0,), (1,), (1,)])

    def check(self, song, fixed, want):
        found = self.leaves_alone(letters_left, song, fixed)
        self.assertEqual(found, want)
        self.assertEqual([type(found)] + [type(letters) for letters in found], [list] + [tuple] * song.length)
        self.assertTrue(all(type(letter) is int for letters in found for letter in letters))

    def test_all_rows_of_small_songs(self):
        for seed, song in enumerate(small_songs()):
            allowed = [row for row in all_rows(song) if price_of(song, row) is not None]
            for fixed in (None, made_fixed(song, seed), made_fixed(song, seed + 3)):
                rows = [row for row in allowed if all(row[place] == letter for place, letter in (fixed or {}).items())]
                self.check(song, fixed, [tuple(sorted({row[place] for row in rows})) for place in range(song.length)])

    def test_songs_of_forty_places(self):
        for seed, song in enumerate(great_songs()[::5] + great_songs(4, 39)[1::6]):
            order = [place for place in ORDERS[seed % 3] if place < song.length]
            for fixed in (None, made_fixed(song, seed)):
                wishes = fixed_as_wishes(song, fixed)
                found = self.leaves_alone(letters_left, song, fixed)
                self.assertEqual(len(found), song.length)
                for place in range(seed % 7, song.length, 7):
                    free = [letter for letter in range(song.letters) if (fixed or {}).get(place, letter) == letter]
                    counts = [row_count_of(song, order, {**wishes, **fixed_as_wishes(song, {place: letter})}) for letter in free]
                    self.assertEqual(found[place], tuple(letter for letter, many in zip(free, counts) if many))

    def test_every_row_is_allowed(self):
        for letters in (1, 5):
            every = tuple(range(letters))
            for song in (Song(letters, 40), Song(letters, 1), Song(letters, 40, (20, Table.silence(letters)), (20, Table.silence(letters)))):
                self.assertEqual(letters_left(song), [every] * song.length)
                self.assertEqual(letters_left(song, {0: 0}), [(0,)] + [every] * (song.length - 1))

    def test_no_row_is_allowed(self):
        for song in (BARRED, Song(2, 40, (39, BARS)), Song(2, 2, (1, U), (1, Table.likeness(2)))):
            for fixed in (None, {}, {0: 0}, {place: 0 for place in range(song.length)}):
                self.assertEqual(letters_left(song, fixed), [()] * song.length)

    def test_a_strand_that_is_barred_bars_the_others(self):
        self.assertEqual(letters_left(Song(2, 4, (2, U)), {0: 1, 2: 1}), [()] * 4)
        self.assertEqual(letters_left(Song(2, 4, (2, U)), {0: 1, 2: 0}), [(1,), (0, 1), (0,), (0, 1)])

    def test_a_result_may_be_changed(self):
        letters_left(SONGS[0]).clear()
        self.assertEqual(len(letters_left(SONGS[0])), 4)

    def test_arguments(self):
        self.checks_song(letters_left, ["fixed"])
        self.checks_song(lambda song: letters_left(song), [])
        for song in SONGS:
            self.checks_arguments(letters_left, song, ("fixed", InvalidFixed, {}, wrong_fixed(song)))
            self.takes_names(letters_left, song, fixed={0: 0})
            self.assertEqual([letters_left(song, None), letters_left(song, {}), letters_left(song, fixed=None)], [letters_left(song)] * 3)


class TestTableBetween(CallCase):
    def test_the_example(self):
        self.assertEqual(table_between(Song(2, 3, (1, C)), 0, 2).rows, ((0, 1), (2, 0)))

    def check(self, song, one, other, wishes, want):
        found = self.leaves_alone(table_between, song, one, other, wishes)
        self.assertIs(type(found), Table)
        self.assertEqual(found.rows, want)

    def test_all_rows_of_small_songs(self):
        for seed, song in enumerate(small_songs(40)):
            rows, letters = all_rows(song), range(song.letters)
            for wishes in (None, made_wishes(song, seed)):
                prices = [price_of(song, row, wishes) for row in rows]
                for one, other in {(0, song.length - 1), (seed % song.length, 0), (seed % song.length, seed // 2 % song.length)}:
                    want = tuple(tuple(least_of([price for row, price in zip(rows, prices) if (row[one], row[other]) == (a, b)])
                                       for b in letters) for a in letters)
                    self.check(song, one, other, wishes, want)

    def test_all_pairs_of_places(self):
        for song in (SONGS[0], SONGS[2], Song(2, 4), made_song(3, 4, (1,), 3), made_song(2, 5, (2, 3), 5), made_song(2, 6, (4, 4), 3)):
            rows, letters = all_rows(song), range(song.letters)
            for seed in range(7):
                wishes = made_wishes(song, seed)
                prices = [price_of(song, row, wishes) for row in rows]
                for one in range(song.length):
                    for other in range(song.length):
                        want = tuple(tuple(least_of([price for row, price in zip(rows, prices) if (row[one], row[other]) == (a, b)])
                                           for b in letters) for a in letters)
                        self.check(song, one, other, wishes, want)

    def test_songs_of_forty_places(self):
        for seed, song in enumerate(great_songs()[::4] + great_songs(3, 39)[1::5]):
            order = [place for place in ORDERS[seed % 3] if place < song.length]
            for one, other in ((seed % song.length, seed * 17 % song.length), (38, 38)):
                wishes = made_wishes(song, seed)
                want = [[least_price_of(song, pinned(song, wishes, one, a, other, b), order) for b in range(song.letters)]
                        for a in range(song.letters)]
                self.check(song, one, other, wishes, tuple(map(tuple, want)))

    def test_one_place_twice(self):
        self.assertEqual(table_between(Song(3, 40), 7, 7), Table.likeness(3))
        self.assertEqual(table_between(Song(2, 2), 1, 1, {1: (4, 7), 0: (1, 2)}).rows, ((5, None), (None, 8)))

    def test_places_on_two_strands(self):
        song = Song(2, 4, (2, C))
        self.assertEqual(table_between(song, 0, 3, {0: (0, 3), 3: (0, 4)}).rows, ((0, 4), (3, 7)))
        self.assertEqual(table_between(song, 0, 1, {3: (None, None)}), BARS)

    def test_all_rows_are_barred(self):
        for song in (BARRED, Song(2, 40, (39, BARS))):
            for wishes in (None, {0: (0, 0)}):
                self.assertEqual(table_between(song, 0, song.length - 1, wishes), BARS)

    def test_great_prices(self):
        song = Song(2, 3, (1, Table([[HUGE, 10 ** 61], [0, None]])))
        want = tuple(tuple(least_of([sum_of(price_of(song, (a, c, b)), 10 ** 70 if c == 0 else 0) for c in (0, 1)]) for b in (0, 1)) for a in (0, 1))
        self.assertEqual(table_between(song, 0, 2, {1: (10 ** 70, 0)}).rows, want)

    def test_arguments(self):
        self.checks_song(table_between, ["one", "other", "wishes"])
        self.checks_song(lambda song, one, other: table_between(song, one, other), ["one", "other"])
        for song in SONGS:
            places = no_integers(0, song.length - 1)
            self.checks_arguments(table_between, song, ("one", InvalidPlace, 0, places), ("other", InvalidPlace, song.length - 1, places),
                                  ("wishes", InvalidWishes, {}, wrong_wishes(song)))
            self.takes_names(table_between, song, one=0, other=song.length - 1, wishes={0: (3,) * song.letters})
            without = table_between(song, 0, 0)
            self.assertEqual([table_between(song, 0, 0, None), table_between(song, 0, 0, {}), table_between(song, other=0, one=0)], [without] * 3)


if __name__ == "__main__":
    unittest.main()
