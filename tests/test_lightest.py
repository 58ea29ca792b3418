"""Promises 2, 3, 8 and 11 and the section of echofold/lightest.py."""

import copy
import unittest

from echofold import lightest as module
from echofold.errors import Barred, InvalidRow, InvalidWishes
from echofold.lightest import lightest, nearest, shows
from echofold.songs import Song
from echofold.tables import Table
from tests.reference import (all_rows, bound_of, great_songs, is_row_by_hand, least_of, least_price_of, made_song, made_wishes,
                             price_of, small_songs, strands_of, top)
from tests.samples import HUGE, SIXTY, CallCase, any_values, wrong_rows, wrong_wishes

U = Table(((None, 0), (0, None)))
C = Table(((0, 1), (2, 0)))
BOTH = Song(2, 5, (3, C), (3, U))
LOOP = Song(2, 5, (2, C), (3, C))
BARS = Table([[None] * 2] * 2)
WRONG_PRICES = [value for value in any_values() if value is not None and not (type(value) is int and value >= 0)]
ODD_HEIGHTS = [None, True, False, 0, 1, -1, -10 ** 70, 10 ** 70, "0", "", (), (0,), [], [0], {}, {0: 0}]


def holds(song, wishes, price, record):
    """What shows has to return, by the document."""
    bound = bound_of(song, wishes, record)
    good = price is None or (type(price) is int and price >= 0)
    return good and bound != "wrong" and top(price) <= top(bound)


def prices_around(bound):
    return [None, 0, 1, 5, 10 ** 80] + ([] if type(bound) is not int else [abs(bound), abs(bound) + 1, max(0, bound - 1)])


def changed(value, at, change):
    """The value with another one in place of what is found by these indexes; a tuple stays a tuple."""
    if not at:
        return change(value)
    parts = list(value)
    parts[at[0]] = changed(parts[at[0]], at[1:], change)
    return type(value)(parts)


def part_at(value, at):
    """The part of the value that is found by these indexes."""
    for index in at:
        value = value[index]
    return value


def spots(value):
    """The indexes that lead to each part of nested lists and tuples."""
    found = [()]
    if isinstance(value, (list, tuple)):
        for index, part in enumerate(value):
            found += [(index, *rest) for rest in spots(part)]
    return found


def spoiled(part):
    """Values in place of a part of a record: ones of another kind, size, or height."""
    found = any_values()[:3] + ["", "a", {}, 7, -7, [part], (part,), {0: part}]
    if isinstance(part, (list, tuple)):
        other = tuple if isinstance(part, list) else list
        found += [other(part), part[1:], part[:-1], part + part[:1], part + part, part[::-1], dict(enumerate(part)), part[:0],
                  type(part)([None]) + part, str(part)]
    else:
        found += ODD_HEIGHTS + [(part or 0) + 1, (part or 0) - 1, str(part)]
    return found


class TestInterface(unittest.TestCase):
    def test_everything_is_defined_in_its_place(self):
        for name in ("lightest", "shows", "nearest"):
            self.assertEqual(getattr(module, name).__module__, "echofold.lightest")


class TestLightest(CallCase):
    def test_the_examples(self):
        self.assertEqual(lightest(Song(2, 4, (2, U), (3, U)), {0: (1, 4)})[:3], ("row", 1, (0, 0, 1, 1)))
        self.assertEqual(lightest(Song(2, 5, (2, U), (3, U)))[0], "none")

    def check(self, song, wishes, least):
        found = self.leaves_alone(lightest, song, wishes)
        self.assertIs(type(found), tuple)
        if least is None:
            self.assertEqual((len(found), found[0]), (2, "none"))
        else:
            self.assertEqual((len(found), found[:2]), (4, ("row", least)))
            self.assertTrue(is_row_by_hand(song, found[2]))
            self.assertEqual(price_of(song, found[2], wishes), least)
        self.assertEqual(bound_of(song, wishes, found[-1]), least)
        self.check_shows(song, wishes, least, found[-1])

    def check_shows(self, song, wishes, least, record):
        self.assertIs(shows(song, wishes, least, record), True)
        self.assertIs(shows(song, wishes, 0, record), True)
        self.assertIs(shows(song, wishes, None, record), least is None)
        if least is not None:
            self.assertIs(shows(song, wishes, least + 1, record), False)
            self.assertIs(shows(song, wishes, least * 2 + 1, record), False)
        else:
            self.assertIs(shows(song, wishes, 10 ** 5000, record), True)

    def test_all_rows_of_small_songs(self):
        for seed, song in enumerate(small_songs()):
            rows = all_rows(song)
            for wishes in (None, made_wishes(song, seed), made_wishes(song, seed + 3)):
                self.check(song, wishes, least_of([price_of(song, row, wishes) for row in reversed(rows)]))

    def test_all_kinds_of_wishes(self):
        for song in (LOOP, BOTH, Song(3, 4, (1, Table.silence(3))), Song(2, 6), made_song(2, 7, (3, 4), 5), Song(1, 2, (1, Table([[4]])))):
            rows = all_rows(song)
            for seed in range(21):
                wishes = made_wishes(song, seed)
                self.check(song, wishes, least_of([price_of(song, row, wishes) for row in rows]))

    def test_songs_of_forty_places(self):
        orders = [list(range(40)), list(range(39, -1, -1)), sorted(range(40), key=lambda place: (place % 3, place % 7, place))]
        for seed, song in enumerate(great_songs() + great_songs(4)):
            for wishes in (None, made_wishes(song, seed), made_wishes(song, seed + 4)):
                self.check(song, wishes, least_price_of(song, wishes, orders[seed % 3]))

    def test_the_order_of_the_places_does_not_count(self):
        for seed, song in enumerate(great_songs()[::4]):
            wishes = made_wishes(song, seed + 3)
            found = {least_price_of(song, wishes, [place * step % 41 - 1 for place in range(1, 41)]) for step in (1, 3, 40)}
            self.assertEqual(found, {price_of(song, lightest(song, wishes)[2], wishes) if lightest(song, wishes)[0] == "row" else None})

    def test_wishes_left_out_none_and_empty_are_the_same(self):
        for song in (LOOP, BOTH, Song(2, 4, (2, U)), Song(2, 5, (2, U), (3, U))):
            want = lightest(song)
            self.assertEqual([lightest(song, None), lightest(song, {}), lightest(song, wishes=None)], [want] * 3)
            self.assertEqual(lightest(song, {place: (0, 0) for place in range(song.length)}), want)

    def test_the_order_of_the_keys_means_nothing(self):
        wishes = made_wishes(BOTH, 3)
        self.assertEqual(lightest(BOTH, wishes), lightest(BOTH, dict(reversed(list(wishes.items())))))

    def test_no_row_at_all(self):
        for song, wishes in ((Song(2, 2, (1, BARS)), None), (Song(2, 40, (39, BARS)), None), (Song(2, 3), {1: (None, None)}),
                             (Song(2, 3, (1, U)), {0: (0, None), 1: (0, None)}), (Song(2, 2, (1, U), (1, Table.likeness(2))), {})):
            self.check(song, wishes, None)

    def test_barred_pairs_that_never_meet(self):
        for song in (Song(2, 3, (3, BARS)), Song(2, 40, (40, BARS)), Song(2, 40, (10 ** 30, BARS), (41, BARS)), Song(1, 1)):
            self.check(song, None, 0)

    def test_great_prices(self):
        great = 10 ** 300
        song = Song(2, 40, (20, Table([[great, great + 1], [None, SIXTY]])), (20, C))
        self.check(song, None, 20 * SIXTY)
        self.check(song, {0: (0, great * 2)}, 19 * SIXTY + great)
        self.check(song, {0: (0, None), 39: (great, 5)}, 19 * SIXTY + great + 5)
        self.check(Song(2, 3, (1, Table([[HUGE, HUGE], [HUGE, HUGE - 1]]))), {2: (HUGE, HUGE)}, 3 * HUGE - 2)

    def test_kinds_of_values(self):
        for song in (BOTH, LOOP, Song(2, 4, (1, C)), Song(2, 5, (2, U), (3, U))):
            found = lightest(song, {0: (3, 5)})
            for at in spots(found[-1]):
                self.assertIn(type(part_at(found[-1], at)), (list, tuple, int, type(None)))
            self.assertIs(type(found[-1]), list)

    def test_a_changed_record_changes_nothing(self):
        for song in (BOTH, LOOP):
            wishes = {0: (2, 3)}
            want = copy.deepcopy(lightest(song, wishes))
            record = lightest(song, wishes)[-1]
            record[0][0] = None
            record[-1].clear()
            record.append(1)
            self.assertEqual((lightest(song, wishes), wishes), (want, {0: (2, 3)}))

    def test_arguments(self):
        self.checks_song(lightest, ["wishes"])
        self.checks_song(lambda song: lightest(song), [])
        for song in (BOTH, LOOP, Song(1, 1), Song(5, 40, (20, Table.silence(5)))):
            self.checks_arguments(lightest, song, ("wishes", InvalidWishes, {}, wrong_wishes(song)))
            self.takes_names(lightest, song, wishes={0: (1,) * song.letters})


class TestShows(CallCase):
    def test_the_example(self):
        self.assertIs(shows(Song(2, 2, (1, C)), None, 1, [[(0, 0), (1, 1)]]), False)

    def test_records_by_hand(self):
        song = Song(2, 2, (1, C))
        for record, bound in (([[(0, 0), (0, 0)]], 0), ([[(0, 0), (-3, 0)]], -3), ([[(-5, 0), (-5, -4)]], -5), ([[(0, 0), (0, 1)]], None)):
            for price in prices_around(bound):
                self.assertIs(shows(song, None, price, record), bound is not None and price is not None and price <= bound)
        self.assertIs(shows(song, {0: (None, 2), 1: (1, 4)}, 5, [[(None, 2), (5, 6)]]), True)
        self.assertIs(shows(song, {0: (None, 2), 1: (1, 4)}, 5, [[(None, 2), (5, 7)]]), False)
        self.assertIs(shows(song, {0: (None, 2), 1: (1, 4)}, 6, [[(None, 2), (5, 6)]]), False)

    def test_records_of_a_ring_by_hand(self):
        song = Song(2, 2, (1, C), (1, C))
        ring = [[(0, None), (0, 1)], [(None, 0), (2, 0)]]
        self.assertEqual(bound_of(song, None, [ring]), 0)
        self.assertIs(shows(song, None, 0, [ring]), True)
        for entry in ([[(0, 99), (0, 1)], [(99, 0), (2, 0)]], [[(0, 0), (0, 0)], [(-1, -1), (-1, -1)]], [[(1, None), (0, 1)], ring[1]],
                      [ring[0], [(None, 1), (2, 0)]], [ring[1], ring[0]], ring[:1], ring + ring[:1], ring[0], [*ring[0], *ring[1]]):
            for price in (0, 1, None):
                self.assertIs(shows(song, None, price, [entry]), holds(song, None, price, [entry]))

    def songs(self):
        return [(BOTH, None), (BOTH, {0: (3, None), 2: (1, 5)}), (LOOP, {4: (0, 3)}), (Song(2, 4, (2, U), (3, U)), {0: (1, 4)}),
                (Song(2, 5, (2, U), (3, U)), None), (Song(1, 2, (1, Table([[4]]))), {}), (Song(2, 3), {1: (None, None)}),
                (Song(3, 2, (1, Table.silence(3)), (1, Table.likeness(3))), {1: (0, 1, None)})]

    def test_one_part_otherwise(self):
        for song, wishes in self.songs():
            record = lightest(song, wishes)[-1]
            for at in spots(record):
                for value in spoiled(part_at(record, at)):
                    other = changed(record, at, lambda _: value)
                    for price in prices_around(bound_of(song, wishes, other)):
                        self.assertIs(shows(song, wishes, price, other), holds(song, wishes, price, other), (other, price))

    def test_a_tuple_for_a_list_and_a_list_for_a_tuple(self):
        for song, wishes in self.songs():
            record = lightest(song, wishes)[-1]
            for at in spots(record):
                other = changed(record, at, lambda part: part if not isinstance(part, (list, tuple))
                                else tuple(part) if isinstance(part, list) else list(part))
                self.assertIs(shows(song, wishes, 0, other), other == record)

    def test_all_heights_lower_or_higher(self):
        def moved(value, by):
            if isinstance(value, (list, tuple)):
                return type(value)([moved(part, by) for part in value])
            return None if value is None else value + by
        for song, wishes in self.songs():
            record = lightest(song, wishes)[-1]
            for by in (-10 ** 70, -2, -1, 1, 2):
                other = moved(record, by)
                for price in prices_around(bound_of(song, wishes, other)):
                    self.assertIs(shows(song, wishes, price, other), holds(song, wishes, price, other))

    def test_many_records(self):
        """Records whose heights are drawn by a plain rule, most of them just above or below the limit."""
        number = 1
        right = 0
        for song, wishes in self.songs() * 3:
            record = lightest(song, wishes)[-1]
            at_heights = [at for at in spots(record) if not isinstance(part_at(record, at), (list, tuple))]
            for _ in range(60):
                other = record
                for _ in range(3):
                    number = number * 1103515245 + 12345 & 2 ** 31 - 1
                    at = at_heights[(number >> 8) % len(at_heights)]
                    step = (number >> 20) % 5 - 3
                    other = changed(other, at, lambda height: step if height is None else height + step)
                for price in prices_around(bound_of(song, wishes, other)):
                    want = holds(song, wishes, price, other)
                    right += want
                    self.assertIs(shows(song, wishes, price, other), want)
        self.assertGreater(right, 200)

    def test_any_value_for_a_record(self):
        for song in (Song(1, 1), BOTH, LOOP, Song(2, 40), Song(2, 1)):
            for record in any_values() + [song, U, lightest(song), [strand for _, strand, _ in strands_of(song)]]:
                for price in (0, None, 7):
                    self.assertIs(self.leaves_alone(shows, song, None, price, record), holds(song, None, price, record))

    def test_any_value_for_a_price(self):
        for song, wishes in self.songs():
            found = lightest(song, wishes)
            for price in WRONG_PRICES + [-1, -10 ** 70, True, False]:
                self.assertIs(shows(song, wishes, price, found[-1]), False)
                self.assertIs(shows(song, wishes, price, None), False)

    def test_a_negative_bound_shows_no_price(self):
        self.assertIs(shows(Song(2, 1), None, 0, [[(-1, 0)]]), False)
        self.assertIs(shows(Song(2, 2), None, 0, [[(-1, 0)], [(0, 0)]]), False)
        self.assertIs(shows(Song(2, 2), {1: (5, 5)}, 4, [[(-1, 0)], [(5, 5)]]), True)
        self.assertIs(shows(Song(2, 2), {1: (None, None)}, None, [[(-1, 0)], [(None, None)]]), True)

    def test_a_record_holds_for_its_wishes_alone(self):
        record = lightest(BOTH, {0: (3, 4), 3: (2, 2)})[-1]
        self.assertIs(shows(BOTH, {0: (3, 4), 3: (2, 2)}, 5, record), True)
        for wishes in (None, {}, {0: (3, 4)}, {0: (2, 4), 3: (2, 2)}, {1: (3, 4), 3: (2, 2)}):
            self.assertIs(shows(BOTH, wishes, 0, record), holds(BOTH, wishes, 0, record))
            self.assertIs(shows(BOTH, wishes, 0, record), False)

    def test_a_record_holds_for_its_song_alone(self):
        record = lightest(LOOP)[-1]
        for song in (LOOP.with_length(4), Song(2, 5, (3, C), (2, C)), Song(2, 5, (2, C)), Song(3, 5), BOTH, Song(2, 5, (2, U), (3, U))):
            self.assertIs(shows(song, None, 0, record), holds(song, None, 0, record))

    def test_songs_of_forty_places(self):
        for seed, song in enumerate(great_songs()[::3]):
            wishes = made_wishes(song, seed)
            record = lightest(song, wishes)[-1]
            places = spots(record)
            for at in places[seed::97]:
                for value in (None, True, -1, 0, 10 ** 70, [], ()):
                    other = changed(record, at, lambda _: value)
                    for price in (0, None, 3):
                        self.assertIs(shows(song, wishes, price, other), holds(song, wishes, price, other))

    def test_arguments(self):
        self.checks_song(shows, ["wishes", "price", "record"])
        for song in (BOTH, LOOP, Song(1, 1)):
            record = lightest(song)[-1]
            for price, other in ((0, record), (None, None), (True, {}), (-1, [[]])):
                for value in wrong_wishes(song):
                    self.refuses(InvalidWishes, "value", value, shows, song, value, price, other)
                    self.refuses(InvalidWishes, "value", value, shows, record=other, price=price, wishes=value, song=song)
            self.takes_names(shows, song, wishes=None, price=0, record=record)
            self.takes_names(shows, song, wishes={}, price=0, record=None)


class TestNearest(CallCase):
    def test_the_example(self):
        self.assertEqual(nearest(Song(2, 4, (2, U), (3, U)), (0, 1, 1, 1)), (1, (0, 0, 1, 1)))

    def check(self, song, row, least):
        if least is None:
            self.assertEqual(vars(self.caught(Barred, nearest, song, row)), {})
            return
        found = self.leaves_alone(nearest, song, row)
        self.assertEqual([type(part) for part in (found, *found)], [tuple, int, tuple])
        self.assertTrue(is_row_by_hand(song, found[1]))
        self.assertIsNotNone(price_of(song, found[1]))
        self.assertEqual(found[0], sum(one != other for one, other in zip(row, found[1])))
        self.assertEqual(found[0], least)

    def test_all_rows_of_small_songs(self):
        for song in small_songs(32):
            allowed = [row for row in all_rows(song) if price_of(song, row) is not None]
            for row in all_rows(song):
                ways = [sum(one != other for one, other in zip(row, found)) for found in allowed]
                self.check(song, row, min(ways, default=None))

    def test_songs_of_forty_places(self):
        for seed, song in enumerate(great_songs() + great_songs(2)):
            row = tuple((place * (seed + 1) + place // 7) % song.letters for place in range(song.length))
            free = Song(song.letters, 40, *[(delay, Table([[None if price is None else 0 for price in prices] for prices in table.rows]))
                                            for delay, table in song.echoes])
            wishes = {place: tuple(int(a != letter) for a in range(song.letters)) for place, letter in enumerate(row)}
            self.check(song, row, least_price_of(free, wishes, list(range(40))))

    def test_an_allowed_row_is_its_own_nearest_one(self):
        for song in great_songs():
            found = lightest(song)
            if found[0] == "row":
                self.assertEqual(nearest(song, found[2]), (0, found[2]))

    def test_prices_do_not_count(self):
        song = Song(2, 2, (1, Table([[HUGE, 0], [0, None]])))
        self.assertEqual(nearest(song, (0, 0)), (0, (0, 0)))
        self.assertEqual(nearest(song, (1, 1))[0], 1)

    def test_no_row_is_allowed(self):
        for song in (Song(2, 5, (2, U), (3, U)), Song(2, 40, (39, BARS)), Song(2, 2, (1, U), (1, Table.likeness(2)))):
            for letter in (0, 1):
                self.check(song, (letter,) * song.length, None)
            for value in wrong_rows(song):
                self.refuses(InvalidRow, "value", value, nearest, song, value)

    def test_arguments(self):
        self.checks_song(nearest, ["row"])
        for song in (BOTH, LOOP, Song(1, 1), Song(5, 40, (20, Table.silence(5)))):
            self.checks_arguments(nearest, song, ("row", InvalidRow, (0,) * song.length, wrong_rows(song)))
            self.takes_names(nearest, song, row=(0,) * song.length)


if __name__ == "__main__":
    unittest.main()
