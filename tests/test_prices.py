"""Promises 2, 3 and 8 and the section of echofold/prices.py."""

import itertools
import unittest

from echofold import prices as module
from echofold.errors import InvalidRow, InvalidWishes
from echofold.prices import faults, is_fixed, is_row, is_wishes, price
from echofold.songs import Song
from echofold.tables import Table
from tests.reference import (all_rows, great_songs, is_fixed_by_hand, is_row_by_hand, is_wishes_by_hand, links_of, made_song,
                             made_wishes, price_of, small_songs)
from tests.samples import HUGE, SIXTY, CallCase, any_values, wrong_fixed, wrong_rows, wrong_wishes

U = Table(((None, 0), (0, None)))
C = Table(((0, 1), (2, 0)))
SONGS = [Song(2, 4, (2, U), (3, U)), Song(2, 4, (2, C)), Song(1, 1), Song(5, 1), Song(3, 2, (1, Table.silence(3)), (1, Table.silence(3))),
         Song(5, 40, (20, Table.silence(5)), (30, Table.silence(5)))]


def rows_to_try(song):
    """Rows of songs with too many of them."""
    k, n = song.letters, song.length
    return [(0,) * n, (k - 1,) * n] + [tuple((place * step + more) * place // 3 % k for place in range(n))
                                       for step in (1, 2, 7) for more in (0, 1, 3)]


class TestInterface(unittest.TestCase):
    def test_everything_is_defined_in_its_place(self):
        for name in ("is_row", "is_wishes", "is_fixed", "price", "faults"):
            self.assertEqual(getattr(module, name).__module__, "echofold.prices")


class TestKinds(CallCase):
    def check(self, call, by_hand, song, values):
        for value in values:
            want = by_hand(song, value)
            self.assertIs(self.leaves_alone(call, song, value), want, value)
            self.takes_names(call, song, value=value)

    def test_rows(self):
        for song in SONGS:
            self.check(is_row, is_row_by_hand, song, any_values() + wrong_rows(song) + rows_to_try(song) + [HUGE, (HUGE,)])
            self.assertFalse(any(is_row(song, value) for value in wrong_rows(song)))
            self.assertTrue(all(is_row(song, row) for row in rows_to_try(song)))

    def test_all_rows_of_small_songs(self):
        for song in (Song(2, 3), Song(3, 2), Song(1, 4), Song(5, 1)):
            found = [value for many in range(5) for value in itertools.product(range(-1, 6), repeat=many) if is_row(song, value)]
            self.assertEqual(found, all_rows(song))

    def test_wishes(self):
        for song in SONGS:
            right = [{}, {0: (0,) * song.letters}, {song.length - 1: (None,) * song.letters}, {0: (HUGE,) * song.letters},
                     {place: (place,) * song.letters for place in range(song.length)}] + [made_wishes(song, seed) for seed in range(1, 20)]
            right = [wishes for wishes in right if wishes is not None]
            self.check(is_wishes, is_wishes_by_hand, song, any_values() + wrong_wishes(song) + right)
            self.assertFalse(any(is_wishes(song, value) for value in wrong_wishes(song)))
            self.assertTrue(all(is_wishes(song, value) for value in right))

    def test_fixed_letters(self):
        for song in SONGS:
            right = [{}, {0: 0}, {song.length - 1: song.letters - 1}, {place: place % song.letters for place in range(song.length)}]
            self.check(is_fixed, is_fixed_by_hand, song, any_values() + wrong_fixed(song) + right)
            self.assertFalse(any(is_fixed(song, value) for value in wrong_fixed(song)))
            self.assertTrue(all(is_fixed(song, value) for value in right))

    def test_none_is_none_of_them(self):
        for call in (is_row, is_wishes, is_fixed):
            self.assertIs(call(Song(2, 4), None), False)

    def test_bools_are_neither_letters_nor_places_nor_prices(self):
        song = Song(2, 2)
        for value in ((True, False), (0, True), (False, 0)):
            self.assertIs(is_row(song, value), False)
        for value in ({True: (0, 0)}, {False: (0, 0)}, {0: (True, 0)}, {0: (0, False)}):
            self.assertIs(is_wishes(song, value), False)
        for value in ({True: 0}, {False: 0}, {0: True}, {0: False}):
            self.assertIs(is_fixed(song, value), False)

    def test_the_song(self):
        for call in (is_row, is_wishes, is_fixed):
            self.checks_song(call, ["value"])


class TestPrice(CallCase):
    def test_the_examples(self):
        self.assertEqual(price(Song(2, 4, (2, C)), (0, 1, 1, 0)), 3)
        self.assertEqual(price(Song(2, 4, (2, C)), (0, 1, 1, 0), {0: (5, None)}), 8)

    def test_all_rows_of_small_songs(self):
        for seed, song in enumerate(small_songs(40)):
            wishes = made_wishes(song, seed)
            for row in all_rows(song):
                self.assertEqual(price(song, row), price_of(song, row))
                self.assertEqual(price(song, row, wishes), price_of(song, row, wishes))

    def test_songs_of_forty_places(self):
        for seed, song in enumerate(great_songs() + great_songs(3, 39)):
            for row in rows_to_try(song):
                for wishes in (None, made_wishes(song, seed)):
                    self.assertEqual(self.leaves_alone(price, song, row, wishes), price_of(song, row, wishes))

    def test_each_link_counts_in_its_direction(self):
        table = Table([[a * 10 + b for b in range(5)] for a in range(5)])
        self.assertEqual(price(Song(5, 3, (2, table)), (3, 0, 4)), 34)
        self.assertEqual(price(Song(5, 3, (2, table), (1, Table.silence(5))), (3, 0, 4)), 34)
        self.assertEqual(price(Song(5, 3, (1, Table.silence(5)), (2, table)), (3, 0, 4)), 34)

    def test_equal_delays_count_twice(self):
        self.assertEqual(price(Song(2, 3, (2, C), (2, C)), (1, 0, 0)), 4)
        self.assertEqual(price(Song(2, 3, (2, C), (2, U)), (1, 0, 0)), 2)
        self.assertIsNone(price(Song(2, 3, (2, C), (2, U)), (0, 0, 0)))

    def test_great_prices(self):
        song = Song(2, 3, (1, Table([[HUGE, 10 ** 61], [0, SIXTY]])))
        self.assertEqual(price(song, (0, 0, 1), {2: (None, HUGE)}), HUGE + 10 ** 61 + HUGE)
        self.assertEqual(price(song, (1, 1, 1)), 2 * SIXTY)

    def test_wishes(self):
        song = Song(2, 2, (1, C))
        for wishes in (None, {}, {0: (0, 0)}, {1: (0, None), 0: (None, 0)}):
            self.assertEqual(price(song, (1, 0), wishes), 2)
        self.assertEqual(price(song, (1, 0), {0: (7, 1), 1: (10, 100)}), 13)
        self.assertEqual(price(song, (1, 0), {1: (10, 100), 0: (7, 1)}), 13)
        self.assertIsNone(price(song, (1, 0), {1: (None, 0)}))
        self.assertIsNone(price(song, (1, 0), {0: (None, None)}))

    def test_one_row_without_links(self):
        for song in (Song(1, 1), Song(1, 40), Song(1, 4, (4, Table([[9]]))), Song(1, 4, (10 ** 30, Table([[None]])))):
            self.assertEqual(price(song, (0,) * song.length), 0)

    def test_arguments(self):
        self.checks_song(price, ["row", "wishes"])
        self.checks_song(lambda song, row: price(song, row), ["row"])
        for song in SONGS[:5]:
            row = (0,) * song.length
            self.checks_arguments(price, song, ("row", InvalidRow, row, wrong_rows(song)),
                                  ("wishes", InvalidWishes, {}, wrong_wishes(song)))
            self.takes_names(price, song, row=row, wishes={0: (4,) * song.letters})
            self.takes_names(price, song, row=row, wishes=None)


class TestFaults(CallCase):
    def test_the_example(self):
        self.assertEqual(faults(Song(2, 4, (2, U), (3, U)), (0, 0, 0, 0)), [(0, 2, 0), (0, 3, 1), (1, 3, 0)])

    def check(self, song, row):
        found = self.leaves_alone(faults, song, row)
        want = [(i, j, index) for i, j, index in reversed(links_of(song)) if song.echoes[index][1].rows[row[i]][row[j]] is None]
        self.assertEqual(found, sorted(want))
        self.assertEqual(found == [], price_of(song, row) is not None)
        self.assertEqual([type(found)] + [type(link) for link in found], [list] + [tuple] * len(found))

    def test_all_rows_of_small_songs(self):
        for song in small_songs(40):
            for row in all_rows(song):
                self.check(song, row)

    def test_songs_of_forty_places(self):
        for song in great_songs() + [made_song(5, 40, delays, 14) for delays in ((1,), (20, 20), (40, 40), (10, 30), (41, 3))]:
            for row in rows_to_try(song):
                self.check(song, row)

    def test_equal_delays_make_two_faults(self):
        self.assertEqual(faults(Song(2, 4, (2, U), (2, U)), (0, 1, 0, 1)), [(0, 2, 0), (0, 2, 1), (1, 3, 0), (1, 3, 1)])

    def test_a_result_may_be_changed(self):
        song = Song(2, 3, (1, U))
        faults(song, (0, 0, 0)).clear()
        self.assertEqual(faults(song, (0, 0, 0)), [(0, 1, 0), (1, 2, 0)])

    def test_arguments(self):
        self.checks_song(faults, ["row"])
        for song in SONGS:
            self.checks_arguments(faults, song, ("row", InvalidRow, (0,) * song.length, wrong_rows(song)))
            self.takes_names(faults, song, row=(0,) * song.length)


if __name__ == "__main__":
    unittest.main()
