"""Promises 2, 3, 6 and 8 and the section of echofold/changes.py."""

import itertools
import unittest

from echofold import changes as module
from echofold.changes import own_delays, own_table, renamed, turned_song, unwoven, woven
from echofold.errors import InvalidNumber, InvalidRow, InvalidSong, InvalidTable
from echofold.folds import count_rest, least_price
from echofold.songs import Song
from echofold.tables import Table
from tests.far import FAR, far_made_songs, far_measures
from tests.reference import all_rows, great_songs, made_song, price_of, small_songs, sum_of
from tests.samples import HUGE, CallCase, any_values, no_integers, not_songs, wrong_rows

U = Table(((None, 0), (0, None)))
C = Table(((0, 1), (2, 0)))
BARS = Table([[None] * 2] * 2)


def seeming_rows(length, seed, letters):
    """Some rows of the song that look different for each seed."""
    return [tuple((place * place * more + place * seed + more) % letters for place in range(length)) for more in range(1, 8)]


class TestInterface(unittest.TestCase):
    def test_everything_is_defined_in_its_place(self):
        for name in ("turned_song", "renamed", "woven", "unwoven", "own_delays", "own_table"):
            self.assertEqual(getattr(module, name).__module__, "echofold.changes")


class TestTurnedSong(CallCase):
    def test_rows_read_backwards_keep_their_prices(self):
        for song in small_songs(60) + great_songs(3)[::3]:
            found = self.leaves_alone(turned_song, song)
            self.assertEqual((found.letters, found.length, found.delays), (song.letters, song.length, song.delays))
            for row in all_rows(song) if song.length < 9 else seeming_rows(song.length, 3, song.letters):
                self.assertEqual(price_of(found, row[::-1]), price_of(song, row))

    def test_all_tables_are_turned(self):
        for song in far_made_songs(3):
            found = turned_song(song)
            self.assertIs(type(found), Song)
            self.assertEqual((found.letters, found.length, len(found.echoes)), (3, song.length, len(song.echoes)))
            for (delay, table), (other, turned) in zip(song.echoes, found.echoes):
                self.assertEqual((other, turned.rows), (delay, tuple(zip(*table.rows))))
            self.assertEqual(turned_song(found), song)
        self.assertEqual(turned_song(Song(2, 4, (2, C), (9, U))).text, "song 2 4\necho 2 0 2 / 1 0\necho 9 - 0 / 0 -")

    def test_far_songs_keep_least_price_and_count(self):
        for song in far_made_songs(3)[::5]:
            found = turned_song(song)
            self.assertEqual([least_price(found), count_rest(found, 10 ** 9)], [least_price(song), count_rest(song, 10 ** 9)])

    def test_arguments(self):
        self.checks_song(turned_song, [], near=False)
        self.takes_names(turned_song, Song(2, FAR, (3, C)))


class TestRenamed(CallCase):
    def test_the_example(self):
        self.assertEqual(renamed(Song(2, 4, (2, C)), (1, 0)).text, "song 2 4\necho 2 0 2 / 1 0")

    def test_each_row_keeps_its_price(self):
        for song in small_songs(60)[::2] + great_songs(5)[::5]:
            orders = list(itertools.permutations(range(song.letters)))
            for letters in orders if len(orders) < 7 else orders[::17]:
                found = self.leaves_alone(renamed, song, letters)
                self.assertEqual((found.letters, found.length, found.delays), (song.letters, song.length, song.delays))
                for row in all_rows(song) if song.length < 9 else seeming_rows(song.length, 2, song.letters):
                    self.assertEqual(price_of(found, tuple(letters[letter] for letter in row)), price_of(song, row))

    def test_all_orders_of_five_letters(self):
        rows = [[a * 5 + b if (a + b) % 4 else None for b in range(5)] for a in range(5)]
        song = Song(5, FAR, (FAR, Table(rows)))
        for letters in itertools.permutations(range(5)):
            found = renamed(song, letters).echoes[0][1].rows
            for a, b in itertools.product(range(5), repeat=2):
                self.assertEqual(found[letters[a]][letters[b]], rows[a][b])
            back = tuple(letters.index(a) for a in range(5))
            self.assertEqual(renamed(renamed(song, letters), back), song)
        self.assertEqual(renamed(song, (0, 1, 2, 3, 4)), song)

    def test_a_song_without_echoes(self):
        self.assertEqual([renamed(Song(1, 1), (0,)), renamed(Song(3, FAR), (2, 0, 1))], [Song(1, 1), Song(3, FAR)])

    def test_arguments(self):
        self.checks_song(renamed, ["letters"], near=False)
        for letters in (1, 2, 3, 5):
            right = tuple(range(letters))
            orders = set(itertools.permutations(right))
            wrong = [value for value in any_values() if not (isinstance(value, tuple) and repr(value) in map(repr, orders))]
            wrong += [list(right), right[1:], right + (0,), right + (letters,), (0,) * (letters + 1), (right,), "01234"[:letters],
                      tuple(map(str, right)), tuple(a + 1 for a in right), tuple(a - 1 for a in right), dict(enumerate(right))]
            if letters > 1:
                wrong += [(0,) * letters, (1,) * letters, (False, True) + right[2:], (0, True) + right[2:], (None,) + right[1:],
                          ((0,),) + right[1:], ([],) + right[1:], (HUGE,) + right[1:], (-1,) + right[1:], right[:-1] + (0,)]
            for song in (Song(letters, 4, (2, Table.silence(letters))), Song(letters, FAR)):
                self.checks_arguments(renamed, song, ("letters", InvalidNumber, right, wrong))
                self.takes_names(renamed, song, letters=right[::-1])


class TestWoven(CallCase):
    def test_the_example(self):
        self.assertEqual(woven(Song(2, 2, (1, U)), Song(2, 1, (1, U))).text, "song 2 3\necho 2 - 0 / 0 -")

    def made(self, letters, length, delays, count, seed=3):
        """Songs to be woven, and the song that comes of it."""
        whole = made_song(letters, length, [delay * count for delay in delays], seed)
        echoes = [(delay // count, table) for delay, table in whole.echoes]
        return [Song(letters, (length - part + count - 1) // count, *echoes) for part in range(count)], whole

    def test_rows_have_the_letters_in_turn(self):
        for delays in ((), (1,), (2,), (9,), (1, 1), (1, 2), (2, 1), (2, 3), (3, 40)):
            for count in (1, 2, 3, 4, 7):
                for length in range(count, min(10, count * sum(delays) if len(delays) == 2 else 10) + 1):
                    songs, whole = self.made(2, length, delays, count, length)
                    found = self.leaves_alone(woven, *songs)
                    self.assertIs(type(found), Song)
                    self.assertEqual(found, whole)
                    for row in all_rows(whole)[::7]:
                        self.assertEqual(price_of(found, row), sum_of(*[price_of(song, row[part::count]) for part, song in enumerate(songs)]))
                    self.assertEqual(unwoven(found, count), songs)

    def test_one_song_is_itself(self):
        for song in (Song(1, 1), Song(2, FAR, (FAR, U), (FAR, C)), Song(5, 41)):
            self.assertEqual(woven(song), song)

    def test_many_songs(self):
        self.assertEqual(woven(*[Song(2, 1, (1, U))] * 300), Song(2, 300, (300, U)))
        self.assertEqual(woven(*[Song(2, 2)] * 3, *[Song(2, 1)] * 97), Song(2, 103))

    def test_far_songs(self):
        third = FAR // 3
        for delays in ((), (1,), (FAR // 3,), (third, third), (1, third), (third, 1), (third // 2, third // 2 + 1)):
            for length in (FAR, FAR - 1, FAR - 2, 3):
                if len(delays) == 2 and length > 3 * sum(delays):
                    continue
                songs, whole = self.made(2, length, delays, 3)
                self.assertEqual(woven(*songs), whole)
                self.assertEqual(unwoven(whole, 3), songs)

    def test_the_sum_is_too_great(self):
        half = Song(2, FAR // 2 + 1)
        self.refuses_number(InvalidNumber, "value", FAR + 2, woven, half, half)
        self.refuses_number(InvalidNumber, "value", FAR + 1, woven, half, Song(2, FAR // 2))
        self.assertEqual(woven(Song(2, FAR // 2), Song(2, FAR // 2)), Song(2, FAR))
        self.refuses_number(InvalidNumber, "value", 3 * FAR, woven, *[Song(2, FAR)] * 3)

    def test_a_delay_is_too_great(self):
        for echoes in ([(FAR // 2 + 1, U)], [(1, U), (FAR // 2 + 1, C)], [(FAR, C), (1, U)], [(FAR, U), (FAR, U)]):
            song = Song(2, 1, *echoes)
            self.refuses_number(InvalidNumber, "value", 2, woven, song, song)
        song = Song(2, 1, (FAR // 2, U))
        self.assertEqual(woven(song, song), Song(2, 2, (FAR, U)))

    def test_wrong_values(self):
        right = Song(2, 3, (2, U))
        self.assertEqual(self.caught(InvalidSong, woven).value, ())
        for value in not_songs():
            self.refuses(InvalidSong, "value", value, woven, value)
            self.refuses(InvalidSong, "value", value, woven, value, right, None)
            self.refuses(InvalidSong, "value", value, woven, right, value)
            self.refuses(InvalidSong, "value", value, woven, right, Song(2, 99, (2, U)), value, None)

    def test_other_letters_and_echoes(self):
        right = Song(2, 3, (2, U))
        for other in (Song(2, 3), Song(2, 3, (3, U)), Song(2, 3, (2, C)), Song(3, 3, (2, Table.silence(3))), Song(2, 3, (2, U), (2, U)), Song(3, 3)):
            self.refuses(InvalidSong, "value", other, woven, right, other)
            self.refuses(InvalidSong, "value", right, woven, other, right)
            self.refuses(InvalidSong, "value", other, woven, right, Song(2, 9, (2, U)), other)
        self.refuses(InvalidSong, "value", one := Song(2, 3, (1, U), (2, C)), woven, Song(2, 3, (2, C), (1, U)), one)
        self.assertEqual(woven(right, Song(2, 3, (2, Table.pairs(2, (0, 1), (1, 0))))), Song(2, 6, (4, U)))

    def test_wrong_lengths(self):
        for lengths in itertools.product(range(1, 6), repeat=3):
            whole = sum(lengths)
            wrong = [at for at in range(3) if lengths[at] != len(range(at, whole, 3))]
            made = [Song(2, length, (2, U)) for length in lengths]
            if wrong:
                self.refuses(InvalidSong, "value", made[wrong[0]], woven, *made)
            else:
                self.assertEqual(woven(*made), Song(2, whole, (6, U)))
        great = Song(2, FAR, (FAR, U))
        self.refuses(InvalidSong, "value", great, woven, great, Song(2, 1, (FAR, U)))


class TestUnwoven(CallCase):
    def test_small_songs(self):
        for song in small_songs(60) + great_songs(2):
            for parts in range(1, 42):
                fits = parts <= min(40, song.length) and all(delay % parts == 0 for delay, _ in song.echoes)
                if not fits:
                    self.refuses(InvalidNumber, "value", parts, unwoven, song, parts)
                    continue
                found = self.leaves_alone(unwoven, song, parts)
                self.assertEqual([type(found), len(found)] + [type(part) for part in found], [list, parts] + [Song] * parts)
                self.assertEqual([part.length for part in found], [len(range(at, song.length, parts)) for at in range(parts)])
                for part in found:
                    self.assertEqual(part.letters, song.letters)
                    self.assertEqual([(delay * parts, table) for delay, table in part.echoes], list(song.echoes))
                self.assertEqual(woven(*found), song)

    def test_the_parts_of_a_far_song(self):
        for length, delays in far_measures():
            song = made_song(2, length, delays)
            for parts in (1, 2, 3, 7, 10, 20, 40):
                if all(delay % parts == 0 for delay in delays) and parts <= length:
                    self.assertEqual(woven(*unwoven(song, parts)), song)
                else:
                    self.refuses(InvalidNumber, "value", parts, unwoven, song, parts)

    def test_the_bounds_of_parts(self):
        self.assertEqual(unwoven(Song(2, 40), 40), [Song(2, 1)] * 40)
        self.refuses(InvalidNumber, "value", 41, unwoven, Song(2, 41), 41)
        self.refuses(InvalidNumber, "value", 41, unwoven, Song(2, FAR, (41, U)), 41)
        self.assertEqual(unwoven(Song(2, 41), 40), [Song(2, 2)] + [Song(2, 1)] * 39)
        self.assertEqual(unwoven(Song(2, 5, (10, U)), 5), [Song(2, 1, (2, U))] * 5)
        self.refuses(InvalidNumber, "value", 10, unwoven, Song(2, 5, (10, U)), 10)
        self.refuses(InvalidNumber, "value", 2, unwoven, Song(2, 5, (4, U), (3, U)), 2)

    def test_a_result_may_be_changed(self):
        song = Song(2, 4)
        unwoven(song, 2).clear()
        self.assertEqual(len(unwoven(song, 2)), 2)

    def test_arguments(self):
        self.checks_song(unwoven, ["parts"], near=False)
        for song, most in ((Song(2, 4, (12, U)), 4), (Song(1, 1), 1), (Song(2, FAR), 40), (Song(3, 60), 40)):
            wrong = no_integers(1, most) + [41, FAR, HUGE, -HUGE]
            self.checks_arguments(unwoven, song, ("parts", InvalidNumber, 1, wrong))
            self.takes_names(unwoven, song, parts=most)


class TestOwn(CallCase):
    def test_the_examples(self):
        self.assertEqual([own_delays(U, (0, 1, 0, 1)), own_table(2, (0, 1, 1), 1).text], [[1, 3], "- 0 / - 0"])

    def tables(self):
        return [U, C, BARS, Table.silence(3), Table.likeness(3), Table([[None, 4, 1], [0, None, 7], [None, None, 0]]), Table([[0]]), Table([[None]])]

    def test_rows_against_all_pairs(self):
        for table in self.tables():
            for length in (1, 2, 3, 5):
                for row in itertools.product(range(table.letters), repeat=length):
                    want = [delay for delay in range(1, length)
                            if all(table.rows[row[i]][row[i + delay]] is not None for i in range(length - delay))]
                    found = self.leaves_alone(own_delays, table, row)
                    self.assertEqual(found, want)
                    self.assertEqual([type(found)] + [type(delay) for delay in found], [list] + [int] * len(want))
                    for delay in (1, 2, length, FAR):
                        pairs = {(row[i], row[j]) for i in range(length) for j in range(length) if j - i == delay}
                        made = self.leaves_alone(own_table, table.letters, row, delay)
                        self.assertIs(type(made), Table)
                        self.assertEqual(made.rows, tuple(tuple(0 if (a, b) in pairs else None for b in range(table.letters)) for a in range(table.letters)))

    def test_rows_of_one_and_of_forty_letters(self):
        row = tuple(place % 5 for place in range(40))
        self.assertEqual(own_delays(Table.likeness(5), row), [5, 10, 15, 20, 25, 30, 35])
        self.assertEqual(own_delays(Table.silence(5), row), list(range(1, 40)))
        self.assertEqual(own_table(5, row, 39), Table.pairs(5, (0, 4)))
        self.assertEqual([own_table(5, row, 40), own_table(5, row, FAR)], [Table([[None] * 5] * 5)] * 2)
        self.assertEqual([own_delays(U, (1,)), own_table(2, (1,), 1)], [[], BARS])

    def test_the_table_fits_its_row(self):
        for row in seeming_rows(40, 5, 4):
            for delay in (1, 7, 39):
                table = own_table(4, row, delay)
                self.assertIn(delay, own_delays(table, row))
                self.assertEqual(price_of(Song(4, 40, (delay, table)), row), 0)

    def test_a_result_may_be_changed(self):
        own_delays(U, (0, 1)).clear()
        self.assertEqual(own_delays(U, (0, 1)), [1])

    def rows_that_are_wrong(self, letters):
        """Values that are no rows of any length from 1 to 40."""
        found = [value for value in any_values() if not isinstance(value, tuple)] + [(), (0,) * 41, ((0,),), (None,), (True,), ("0",), (0, (0,))]
        return found + [row for row in wrong_rows(Song(letters, 4)) if not isinstance(row, tuple) or len(row) == 4] + [(0,) * 400]

    def test_arguments_of_own_delays(self):
        for value in not_songs()[:-1] + [Song(2, 4), U.rows, [U], (U,), Table]:
            if not isinstance(value, Table):
                for row in ((0, 1), None, [0], (9,)):
                    self.refuses(InvalidTable, "value", value, own_delays, value, row)
                    self.refuses(InvalidTable, "value", value, own_delays, row=row, table=value)
        for table in (U, Table.silence(5), Table([[0]])):
            for row in self.rows_that_are_wrong(table.letters):
                self.refuses(InvalidRow, "value", row, own_delays, table, row)
                self.refuses(InvalidRow, "value", row, own_delays, row=row, table=table)
        self.assertEqual(own_delays(row=(0, 1), table=U), [1])

    def test_arguments_of_own_table(self):
        for letters in no_integers(1, 5) + [HUGE]:
            for row, delay in (((0,), 1), (None, None), ([0], 0)):
                self.refuses(InvalidNumber, "value", letters, own_table, letters, row, delay)
                self.refuses(InvalidNumber, "value", letters, own_table, delay=delay, row=row, letters=letters)
        for letters in (1, 2, 5):
            for row in self.rows_that_are_wrong(letters):
                for delay in (1, 0, None):
                    self.refuses(InvalidRow, "value", row, own_table, letters, row, delay)
            for delay in no_integers(1, FAR) + [HUGE, -HUGE]:
                self.refuses(InvalidNumber, "value", delay, own_table, letters, (0, 0), delay)
                self.refuses(InvalidNumber, "value", delay, own_table, delay=delay, row=(0,), letters=letters)
        self.assertEqual(own_table(delay=1, row=(0, 1), letters=2), own_table(2, (0, 1), 1))


if __name__ == "__main__":
    unittest.main()
