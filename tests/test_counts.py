"""Promises 2, 3, 4 and 8 and the section of echofold/counts.py."""

import math
import unittest

from echofold import counts as module
from echofold.counts import count_by_price, row_count
from echofold.errors import InvalidFixed, InvalidNumber, InvalidWishes
from echofold.songs import Song
from echofold.tables import Table
from tests.reference import (ORDERS, all_rows, counts_of, fixed_as_wishes, great_songs, made_fixed, made_song, made_wishes,
                             price_of, row_count_of, small_songs)
from tests.samples import HUGE, CallCase, no_integers, wrong_fixed, wrong_wishes

U = Table(((None, 0), (0, None)))
C = Table(((0, 1), (2, 0)))
BARS = Table([[None] * 2] * 2)
SONGS = [Song(2, 5, (3, C), (3, U)), Song(2, 5, (2, C), (3, C)), Song(1, 1), Song(5, 2, (1, Table.silence(5)))]


class TestInterface(unittest.TestCase):
    def test_everything_is_defined_in_its_place(self):
        for name in ("row_count", "count_by_price"):
            self.assertEqual(getattr(module, name).__module__, "echofold.counts")


class TestRowCount(CallCase):
    def test_the_examples(self):
        song = Song(2, 4, (2, U), (3, U))
        self.assertEqual([row_count(song), row_count(song, {0: 1})], [2, 1])

    def check(self, song, fixed, want):
        found = self.leaves_alone(row_count, song, fixed)
        self.assertEqual(found, want)
        self.assertIs(type(found), int)

    def test_all_rows_of_small_songs(self):
        for seed, song in enumerate(small_songs()):
            allowed = [row for row in all_rows(song) if price_of(song, row) is not None]
            for fixed in (None, made_fixed(song, seed), made_fixed(song, seed + 3)):
                self.check(song, fixed, sum(all(row[place] == letter for place, letter in (fixed or {}).items()) for row in allowed))

    def test_songs_of_forty_places(self):
        for seed, song in enumerate(great_songs() + great_songs(4, 39)):
            for fixed in (None, made_fixed(song, seed)):
                order = [place for place in ORDERS[seed % 3] if place < song.length]
                self.check(song, fixed, row_count_of(song, order, fixed_as_wishes(song, fixed)))

    def test_the_order_of_the_places_does_not_count(self):
        for song in great_songs()[::5]:
            self.assertEqual([row_count_of(song, order) for order in ORDERS], [row_count(song)] * 3)

    def test_every_row_is_allowed(self):
        for letters in (1, 2, 3, 4, 5):
            silence = Table.silence(letters)
            for song in (Song(letters, 40), Song(letters, 40, (3, silence)), Song(letters, 40, (20, silence), (20, silence)),
                         Song(letters, 40, (40, Table([[None] * letters] * letters)), (7, silence)), Song(letters, 40, (15, silence), (25, silence))):
                self.assertEqual(row_count(song), letters ** 40)
                self.assertEqual(row_count(song, {0: 0, 39: letters - 1}), letters ** 38)

    def test_no_row_is_allowed(self):
        for song in (Song(2, 5, (2, U), (3, U)), Song(2, 40, (39, BARS)), Song(2, 2, (1, U), (1, Table.likeness(2)))):
            for fixed in (None, {}, {0: 0}, {place: 0 for place in range(song.length)}):
                self.assertEqual(row_count(song, fixed), 0)

    def test_all_letters_are_fixed(self):
        song = Song(2, 4, (2, U), (3, U))
        for row in all_rows(song):
            self.assertEqual(row_count(song, dict(enumerate(row))), int(price_of(song, row) is not None))

    def test_letter_0_is_fixed_like_any_other(self):
        self.assertEqual([row_count(Song(3, 2), {1: letter}) for letter in (0, 1, 2)], [3, 3, 3])

    def test_wishes_and_prices_do_not_count(self):
        self.assertEqual(row_count(Song(2, 3, (1, Table([[HUGE, 5], [61, None]])))), 5)

    def test_fixed_letters_left_out_none_and_empty_are_the_same(self):
        for song in SONGS:
            self.assertEqual([row_count(song, None), row_count(song, {}), row_count(song, fixed=None)], [row_count(song)] * 3)

    def test_arguments(self):
        self.checks_song(row_count, ["fixed"])
        self.checks_song(lambda song: row_count(song), [])
        for song in SONGS:
            self.checks_arguments(row_count, song, ("fixed", InvalidFixed, {}, wrong_fixed(song)))
            self.takes_names(row_count, song, fixed={0: 0})
            self.takes_names(row_count, song, fixed=None)


class TestCountByPrice(CallCase):
    def test_the_example(self):
        self.assertEqual(count_by_price(Song(2, 3, (1, C)), 4), [2, 2, 2, 2, 0])

    def check(self, song, most, wishes, want):
        found = self.leaves_alone(count_by_price, song, most, wishes)
        self.assertEqual(found, want)
        self.assertEqual([type(found)] + [type(many) for many in found], [list] + [int] * (most + 1))

    def test_all_rows_of_small_songs(self):
        for seed, song in enumerate(small_songs()):
            for wishes in (None, made_wishes(song, seed), made_wishes(song, seed + 3)):
                prices = [price_of(song, row, wishes) for row in all_rows(song)]
                for most in (0, seed % 61, 60):
                    self.check(song, most, wishes, [prices.count(price) for price in range(most + 1)])

    def test_songs_of_forty_places(self):
        for seed, song in enumerate(great_songs() + great_songs(3, 39)):
            order = [place for place in ORDERS[seed % 3] if place < song.length]
            for wishes in (None, made_wishes(song, seed)):
                want = counts_of(song, 60, wishes, order)
                self.check(song, 60, wishes, want)
                self.assertEqual(count_by_price(song, seed % 30, wishes), want[:seed % 30 + 1])

    def test_songs_with_low_prices(self):
        for seed, delays in enumerate(((1,), (20, 20), (25, 15), (15, 30), (39, 1), (22, 22), (7,), (18, 24))):
            song = made_song(5, 40, delays, 5 * seed + 3)
            self.check(song, 60, None, counts_of(song, 60, None, ORDERS[seed % 3]))

    def test_at_each_of_forty_places_a_letter_costs_1(self):
        song = Song(2, 40, (40, BARS))
        want = [math.comb(40, price) for price in range(61)]
        self.assertEqual(count_by_price(song, 60, {place: (0, 1) for place in range(40)}), want)
        self.assertEqual(count_by_price(song, 0, {place: (0, 1) for place in range(40)}), [1])

    def test_all_prices_are_low_enough(self):
        unlike = Table([[int(a != b) for b in range(5)] for a in range(5)])
        for delays in ((1,), (3,), (20, 20), (15, 25), (16, 30)):
            song = Song(5, 40, *[(delay, unlike) for delay in delays])
            self.assertEqual(sum(count_by_price(song, 60)), 5 ** 40)

    def test_prices_above_most_are_left_out(self):
        song = Song(2, 2, (1, Table([[60, 61], [HUGE, None]])))
        self.assertEqual(count_by_price(song, 60), [0] * 60 + [1])
        self.assertEqual(count_by_price(song, 59), [0] * 60)
        self.assertEqual(count_by_price(song, 60, {0: (1, 0)}), [0] * 61)
        self.assertEqual(count_by_price(Song(1, 2), 60, {0: (30,), 1: (30,)}), [0] * 60 + [1])
        self.assertEqual(count_by_price(Song(1, 2), 60, {0: (30,), 1: (31,)}), [0] * 61)

    def test_wishes_that_bar(self):
        song = Song(2, 3, (1, C))
        self.assertEqual(count_by_price(song, 3, {0: (None, 0)}), [1, 0, 2, 1])
        self.assertEqual(count_by_price(song, 3, {1: (None, None)}), [0, 0, 0, 0])

    def test_no_row_is_allowed(self):
        for song in (Song(2, 5, (2, U), (3, U)), Song(2, 40, (39, BARS))):
            self.assertEqual([count_by_price(song, 0), count_by_price(song, 60, {0: (0, 0)})], [[0], [0] * 61])

    def test_wishes_left_out_none_and_empty_are_the_same(self):
        for song in SONGS:
            want = count_by_price(song, 9)
            self.assertEqual([count_by_price(song, 9, None), count_by_price(song, 9, {}), count_by_price(song, most=9)], [want] * 3)

    def test_a_result_may_be_changed(self):
        count_by_price(SONGS[0], 4).clear()
        self.assertEqual(len(count_by_price(SONGS[0], 4)), 5)

    def test_arguments(self):
        self.checks_song(count_by_price, ["most", "wishes"])
        self.checks_song(lambda song, most: count_by_price(song, most), ["most"])
        for song in SONGS:
            self.checks_arguments(count_by_price, song, ("most", InvalidNumber, 5, no_integers(0, 60)),
                                  ("wishes", InvalidWishes, {}, wrong_wishes(song)))
            self.takes_names(count_by_price, song, most=7, wishes={0: (3,) * song.letters})
            self.takes_names(count_by_price, song, most=60, wishes=None)


if __name__ == "__main__":
    unittest.main()
