"""Promises 2, 3, 8 and 12 and the section of echofold/numbers.py."""

import bisect
import itertools
import unittest

from echofold import numbers as module
from echofold.counts import row_count
from echofold.errors import Barred, InvalidFixed, InvalidNumber, InvalidRow, NoRow
from echofold.numbers import next_row, number_of, row_at, rows_from
from echofold.songs import Song
from echofold.tables import Table
from tests.reference import (ORDERS, all_rows, fixed_as_wishes, great_songs, is_row_by_hand, made_fixed, made_song, price_of,
                             row_count_of, small_songs)
from tests.samples import HUGE, SIXTY, CallCase, any_values, wrong_fixed, wrong_rows

U = Table(((None, 0), (0, None)))
C = Table(((0, 1), (2, 0)))
BARS = Table([[None] * 2] * 2)
PAIR = Song(2, 4, (2, U), (3, U))
BARRED = Song(2, 5, (2, U), (3, U))
SONGS = [PAIR, BARRED, Song(2, 5, (3, C), (3, U)), Song(1, 1), Song(5, 2, (1, Table.silence(5)))]
WRONG_NUMBERS = [value for value in any_values() if not (type(value) is int and value >= 0)] + [-1, -HUGE]


def allowed_rows(song, fixed):
    """All allowed rows, ascending, by going through all rows."""
    return [row for row in all_rows(song) if price_of(song, row) is not None
            and all(row[place] == letter for place, letter in (fixed or {}).items())]


def listed(song, row=None, fixed=None):
    return list(rows_from(song=song, row=row, fixed=fixed))


def first_of(song, row=None, fixed=None):
    """The errors of a generator may come with the first result."""
    return next(rows_from(song, row, fixed), None)


def digits(number, letters, many):
    return tuple(number // letters ** (many - 1 - at) % letters for at in range(many))


def number_by_counts(song, row, fixed, order):
    """How many allowed rows are less than this one, by counting those that begin like it and go on with a lesser letter."""
    found = 0
    wishes = fixed_as_wishes(song, fixed)
    for place in range(song.length):
        begin = {**wishes, **fixed_as_wishes(song, dict(enumerate(row[:place])))}
        lesser = tuple(0 if a < row[place] and wishes.get(place, (0,) * song.letters)[a] == 0 else None for a in range(song.letters))
        found += row_count_of(song, order, {**begin, place: lesser})
    return found


class TestInterface(unittest.TestCase):
    def test_everything_is_defined_in_its_place(self):
        for name in ("row_at", "number_of", "next_row", "rows_from"):
            self.assertEqual(getattr(module, name).__module__, "echofold.numbers")


class TestSmallSongs(CallCase):
    def test_the_examples(self):
        self.assertEqual([row_at(PAIR, 1), number_of(Song(2, 3), (1, 0, 1))], [(1, 1, 0, 0), 5])
        self.assertEqual(list(rows_from(PAIR, (0, 1, 0, 0))), [(1, 1, 0, 0)])

    def check_row_at(self, song, fixed, want):
        for number, row in enumerate(want):
            found = row_at(song, number, fixed)
            self.assertEqual(found, row)
            self.assertTrue(is_row_by_hand(song, found))
        for number in (len(want), len(want) + 1, song.letters ** song.length + len(want), 10 ** 30, SIXTY, HUGE):
            self.refuses(NoRow, "number", number, row_at, song, number, fixed)

    def check_rows(self, song, fixed, want, rows):
        for row in rows:
            if row in want:
                self.assertEqual(number_of(song, row, fixed), want.index(row))
            else:
                self.caught(Barred, number_of, song, row, fixed)
            at = bisect.bisect_right(want, row)
            self.assertEqual(next_row(song, row, fixed), want[at] if at < len(want) else None)

    def check_rows_from(self, song, fixed, want, rows):
        found = listed(song, None, fixed)
        self.assertEqual(found, want)
        self.assertTrue(all(is_row_by_hand(song, row) for row in found))
        for row in rows:
            self.assertEqual(listed(song, row, fixed), want[bisect.bisect_left(want, row):])

    def test_all_rows(self):
        for seed, song in enumerate(small_songs(32)):
            rows = all_rows(song)
            for fixed in (None, made_fixed(song, seed)):
                want = allowed_rows(song, fixed)
                self.check_row_at(song, fixed, want)
                self.check_rows(song, fixed, want, rows)
                self.check_rows_from(song, fixed, want, rows[::7] + rows[-1:])

    def test_songs_with_more_rows(self):
        for seed, song in enumerate(small_songs(250)):
            if seed % 9 == 0 and song.letters ** song.length > 60:
                rows = all_rows(song)
                for fixed in (None, made_fixed(song, seed), made_fixed(song, seed + 3)):
                    want = allowed_rows(song, fixed)
                    self.check_row_at(song, fixed, want)
                    self.check_rows(song, fixed, want, rows[::17])
                    self.check_rows_from(song, fixed, want, rows[5::50])

    def test_all_letters_are_fixed(self):
        for row in all_rows(PAIR):
            fixed = dict(enumerate(row))
            want = [row] if price_of(PAIR, row) is not None else []
            self.check_row_at(PAIR, fixed, want)
            self.check_rows(PAIR, fixed, want, all_rows(PAIR))
            self.check_rows_from(PAIR, fixed, want, all_rows(PAIR))

    def test_no_row_is_allowed(self):
        for song in (BARRED, Song(2, 40, (39, BARS)), Song(5, 2, (1, Table.likeness(5)), (1, Table([[None] * 5] * 5)))):
            for fixed in (None, {}, {0: 0}):
                row = (0,) * song.length
                self.refuses(NoRow, "number", 0, row_at, song, 0, fixed)
                self.caught(Barred, number_of, song, row, fixed)
                self.assertIs(next_row(song, row, fixed), None)
                self.assertEqual([listed(song, row, fixed), listed(song, None, fixed)], [[], []])

    def test_one_row_is_allowed(self):
        for song in (Song(1, 1), Song(1, 40, (3, Table([[7]]))), Song(3, 4, (1, Table.pairs(3, (2, 2))))):
            row = (song.letters - 1,) * song.length
            self.assertEqual([row_at(song, 0), number_of(song, row), next_row(song, row)], [row, 0, None])
            self.assertEqual([listed(song), listed(song, row), listed(song, (0,) * song.length)], [[row]] * 3)
            self.refuses(NoRow, "number", 1, row_at, song, 1)

    def test_a_row_without_the_fixed_letters(self):
        song = Song(2, 3)
        self.caught(Barred, number_of, song, (0, 0, 0), {2: 1})
        self.assertEqual([next_row(song, (0, 0, 0), {2: 1}), next_row(song, (0, 0, 1), {2: 1}), next_row(song, (1, 0, 1), {0: 0})],
                         [(0, 0, 1), (0, 1, 1), None])
        self.assertEqual(listed(song, (0, 1, 0), {0: 1, 2: 0}), [(1, 0, 0), (1, 1, 0)])
        self.assertEqual([number_of(song, (0, 1, 1), {2: 1}), row_at(song, 3, {2: 1})], [1, (1, 1, 1)])


class TestFortyPlaces(CallCase):
    def test_every_row_is_allowed(self):
        for letters in (1, 2, 5):
            last = letters ** 40 - 1
            for song in (Song(letters, 40), Song(letters, 40, (15, Table.silence(letters)), (25, Table.silence(letters)))):
                for number in {0, last // 3, last // 2, last - last // 7, last}:
                    row = digits(number, letters, 40)
                    self.assertEqual([row_at(song, number), number_of(song, row)], [row, number])
                    self.assertEqual(next_row(song, row), None if number == last else digits(number + 1, letters, 40))
                self.refuses_number(NoRow, "number", last + 1, row_at, song, last + 1)

    def test_numbers_are_the_numbers_of_lesser_rows(self):
        for seed, song in enumerate(great_songs(4)[::4]):
            for fixed in (None, {place: 0 for place in range(2, 40, 9)}):
                order = ORDERS[seed % 3]
                many = row_count_of(song, order, fixed_as_wishes(song, fixed))
                if many > 0:
                    row = row_at(song, many * 2 // 3, fixed)
                    self.assertIsNot(price_of(song, row), None)
                    self.assertTrue(all(row[place] == letter for place, letter in (fixed or {}).items()))
                    self.assertEqual(number_by_counts(song, row, fixed, order), many * 2 // 3)

    def test_there_and_back(self):
        for seed, song in enumerate(great_songs()[::5] + great_songs(3, 39)[1::6]):
            for fixed in (None, {seed: 0, 38: 1}):
                many = row_count(song, fixed)
                numbers = sorted({0, many // 5, many // 2, many - 2, many - 1} - {-1, -2})
                rows = [row_at(song, number, fixed) for number in numbers if number < many]
                self.assertEqual(rows, sorted(rows))
                for number, row in zip(numbers, rows):
                    self.assertEqual(number_of(song, row, fixed), number)
                    following = row_at(song, number + 1, fixed) if number + 1 < many else None
                    self.assertEqual(next_row(song, row, fixed), following)
                    self.assertEqual(list(itertools.islice(rows_from(song, row, fixed), 2)), [row] + [following] * (number + 1 < many))
                self.refuses_number(NoRow, "number", many, row_at, song, many, fixed)

    def test_rows_between_the_allowed_ones(self):
        for seed, song in enumerate(great_songs()[::8]):
            many = row_count(song)
            for row in (tuple((place * 3 + seed) % 5 for place in range(40)), (0,) * 40, (4,) * 40):
                lesser = number_by_counts(song, row, None, ORDERS[seed % 3])
                at = lesser + int(price_of(song, row) is not None)
                self.assertEqual(next_row(song, row), row_at(song, at) if at < many else None)
                self.assertEqual(first_of(song, row), row_at(song, lesser) if lesser < many else None)

    def test_many_rows_one_after_another(self):
        song = made_song(5, 40, (13, 27), 2)
        for row in (None, (3,) * 40):
            rows = list(itertools.islice(rows_from(song, row), 30))
            first = number_of(song, rows[0])
            self.assertEqual(rows, [row_at(song, first + more) for more in range(30)])


class TestRowsFrom(CallCase):
    def test_the_next_row_is_looked_for_when_it_is_asked_for(self):
        song = Song(5, 40)
        one, other = rows_from(song), rows_from(song, (4,) * 39 + (3,))
        self.assertEqual([next(one), next(one), next(other)], [(0,) * 40, (0,) * 39 + (1,), (4,) * 39 + (3,)])
        self.assertEqual([next(other), next(other, None), next(one)], [(4,) * 40, None, (0,) * 39 + (2,)])

    def test_fixed_letters_that_are_changed_afterwards(self):
        fixed = {0: 1}
        found = rows_from(Song(2, 3), None, fixed)
        self.assertEqual(next(found), (1, 0, 0))
        fixed[0] = 0
        self.assertEqual(list(found), [(1, 0, 1), (1, 1, 0), (1, 1, 1)])

    def test_without_a_row(self):
        song = Song(2, 2, (1, U))
        self.assertEqual([list(rows_from(song)), list(rows_from(song, None)), list(rows_from(song, fixed={0: 1}))],
                         [[(0, 1), (1, 0)], [(0, 1), (1, 0)], [(1, 0)]])


class TestArguments(CallCase):
    def test_row_at(self):
        self.checks_song(row_at, ["number", "fixed"])
        self.checks_song(lambda song, number: row_at(song, number), ["number"])
        for song in SONGS:
            for number in ([0] if song is not BARRED else []) + [10 ** 9]:
                right = ("number", InvalidNumber, number, WRONG_NUMBERS)
                self.checks_arguments(row_at, song, right, ("fixed", InvalidFixed, {}, wrong_fixed(song)))
            for fixed in wrong_fixed(song)[:3]:
                self.refuses(InvalidFixed, "value", fixed, row_at, song, 10 ** 30, fixed)

    def test_number_of_and_next_row(self):
        for call in (number_of, next_row):
            self.checks_song(call, ["row", "fixed"])
            self.checks_song(lambda song, row: call(song, row), ["row"])
            for song in SONGS:
                row = (0,) * song.length
                self.checks_arguments(call, song, ("row", InvalidRow, row, wrong_rows(song)),
                                      ("fixed", InvalidFixed, {}, wrong_fixed(song)))

    def test_rows_from(self):
        self.checks_song(first_of, ["row", "fixed"])
        self.checks_song(lambda song: next(rows_from(song=song)), [])
        for song in SONGS:
            for row in ((0,) * song.length, None):
                wrong = [value for value in wrong_rows(song) if value is not None]
                self.checks_arguments(first_of, song, ("row", InvalidRow, row, wrong),
                                      ("fixed", InvalidFixed, {}, wrong_fixed(song)))

    def test_names_and_repeated_calls(self):
        song = Song(2, 3, (1, C))
        for fixed in (None, {}, {1: 0}):
            for call, named in ((row_at, {"number": 1}), (number_of, {"row": (1, 0, 1)}), (next_row, {"row": (0, 0, 1)}),
                                (listed, {"row": (0, 0, 1)}), (listed, {"row": None})):
                self.takes_names(call, song, **named, fixed=fixed)
                self.leaves_alone(call, song, *named.values(), fixed)
                if not fixed:
                    self.assertEqual(call(song, *named.values()), call(song, *named.values(), fixed))
        self.assertEqual(list(rows_from(song, row=(1, 0, 0), fixed={2: 1})), [(1, 0, 1), (1, 1, 1)])


if __name__ == "__main__":
    unittest.main()
