"""Promises 2, 3, 7 and 9 and the section of echofold/strands.py."""

import itertools
import math
import unittest

from echofold import errors, strands as module
from echofold.errors import InvalidPlace
from echofold.songs import Song
from echofold.strands import Line, Ring, Strand, next_place, place_before, strand_at, strands
from echofold.tables import Table
from tests.reference import great_delays, hops_of, made_song, small_songs, strands_of
from tests.samples import CallCase, any_values, no_integers

U = Table(((None, 0), (0, None)))
C = Table(((0, 1), (2, 0)))
FAR = 10 ** 30
PARTS = ("places", "hops", "shape", "__len__", "__contains__", "__eq__")


def first_of(song):
    """The errors of a generator may come with the first result."""
    return next(strands(song))


def bare_songs():
    """Songs of many lengths and delays whose tables do not matter."""
    table, other = Table([[1]]), Table([[2]])
    found = [Song(1, length) for length in (1, 2, 40)]
    found += [Song(1, length, (d, table)) for length in (1, 2, 7, 39, 40) for d in (1, 2, 3, 7, 39, 40, 41, FAR)]
    for d, e in itertools.product((1, 2, 3, 4, 6, 9, 10), repeat=2):
        found += [Song(1, length, (d, table), (e, other)) for length in range(1, d + e + 1)]
    for d, e in [delays for delays in great_delays() if len(delays) == 2]:
        found += [Song(1, length, (d, table), (e, other)) for length in (1, 2, 20, 38, 39, 40) if length <= d + e]
    return found


def tell(song):
    """What [9] speaks of: the delays, their greatest common divisor and m."""
    d, e = song.delays
    return d, e, math.gcd(d, e), d + e - song.length


class TestInterface(unittest.TestCase):
    def test_everything_is_defined_in_its_place(self):
        for name in ("next_place", "place_before", "strands", "strand_at", "Strand", "Line", "Ring"):
            self.assertEqual(getattr(module, name).__module__, "echofold.strands")

    def test_each_class_defines_all_that_is_listed(self):
        for kind in (Strand, Line, Ring):
            for name in PARTS:
                self.assertIn(name, vars(kind), kind)

    def test_strand_is_the_base_of_both(self):
        self.assertEqual([Line.__bases__, Ring.__bases__], [(Strand,), (Strand,)])
        self.assertFalse(issubclass(Line, Ring) or issubclass(Ring, Line))


class TestHops(CallCase):
    def test_small_songs_by_all_pairs_of_places(self):
        for song in bare_songs():
            hops = {here: there for here, (there, _) in hops_of(song).items()}
            back = {there: here for here, there in hops.items()}
            for place in reversed(range(song.length)):
                self.assertEqual(next_place(song, place), hops.get(place))
                self.assertEqual(place_before(song, place), back.get(place))

    def test_songs_of_any_length(self):
        half, third = FAR // 2, FAR // 3
        for length, *delays in ((FAR, 3), (FAR, FAR), (FAR, half, half), (FAR, third, FAR), (FAR, FAR, 7), (FAR, FAR - 5, 5),
                                (FAR, 5, FAR - 5), (41, 20, 21), (41, 21, 20), (41,), (FAR,), (FAR - 1, half, half + 7), (41, 45, 2)):
            song = Song(2, length, *[(delay, U) for delay in delays])
            marks = [0, 1, 2, 3, 4, 5, 6, 7, 20, 21, third, half, length - third, length - half, length - 7, length - 5, length - 1]
            places = {mark + more for mark in marks for more in (-1, 0, 1)}
            for place in sorted(place for place in places if 0 <= place < length):
                on = [place + delays[0]] if delays and place + delays[0] < length else []
                back = [place - delays[1]] if len(delays) == 2 and place >= delays[1] else []
                self.assertEqual([next_place(song, place)], (on + back) or [None])
                if on + back:
                    self.assertEqual(place_before(song, next_place(song, place)), place)
                before = place_before(song, place)
                if before is not None:
                    self.assertEqual(next_place(song, before), place)
                else:
                    self.assertTrue(not delays or (place < delays[0] and (len(delays) == 1 or place + delays[1] >= length)))

    def test_songs_without_echoes_have_no_hops(self):
        for length in (1, 2, 40, 41, FAR):
            for place in {0, length // 2, length - 1}:
                self.assertEqual([next_place(Song(5, length), place), place_before(Song(5, length), place)], [None, None])

    def test_results_are_integers(self):
        song = Song(2, 3, (1, U))
        self.assertEqual([type(next_place(song, 0)), type(place_before(song, 1))], [int, int])

    def test_arguments(self):
        for call in (next_place, place_before):
            self.checks_song(call, ["place"], near=False)
            for song in (Song(2, 4, (2, U), (3, U)), Song(1, 1), Song(2, FAR, (3, U)), Song(2, 41)):
                self.checks_arguments(call, song, ("place", InvalidPlace, 0, no_integers(0, song.length - 1)))
                self.takes_names(call, song, place=song.length - 1)
                self.leaves_alone(call, song, 0)


class TestStrands(CallCase):
    def test_the_examples(self):
        self.assertEqual([strand.places for strand in strands(Song(2, 4, (2, U), (3, U)))], [(1, 3, 0, 2)])
        self.assertEqual([strand.shape for strand in strands(Song(2, 5, (2, U), (3, U)))], [("ring", 5, 3, 2)])
        self.assertEqual(strand_at(Song(2, 5, (3, C)), 4).places, (1, 4))

    def check(self, song):
        found = list(strands(song))
        want = strands_of(song)
        self.assertEqual([strand.places for strand in found], [places for _, places, _ in want])
        for strand, (kind, places, tables) in zip(found, want):
            self.assertIs(type(strand), {"line": Line, "ring": Ring}[kind])
            self.assertEqual(len(strand), len(places))
            self.assertEqual([table.rows for _, _, table in strand.hops], tables)
            around = places[1:] + (places[:1] if kind == "ring" else ())
            self.assertEqual([hop[:2] for hop in strand.hops], list(zip(places, around)))
            on = sum(there > here for here, there in zip(places, around))
            self.assertEqual(strand.shape, (kind, len(places), on, len(around) - on))

    def test_small_songs(self):
        for song in small_songs():
            self.check(song)

    def test_songs_of_up_to_forty_places(self):
        for song in bare_songs():
            self.check(song)
        for letters in (2, 5):
            for seed, delays in enumerate(great_delays()):
                for length in (39, 40):
                    if len(delays) < 2 or sum(delays) >= length:
                        self.check(made_song(letters, length, delays, seed))

    def test_kinds_of_values(self):
        for song in (Song(2, 4, (2, C), (2, U)), Song(2, 4, (2, C), (3, U)), Song(2, 1)):
            for strand in strands(song):
                self.assertEqual([type(part) for part in (strand.places, strand.hops, strand.shape)], [tuple] * 3)
                self.assertEqual({type(place) for place in strand.places}, {int})
                for hop in strand.hops:
                    self.assertEqual([type(part) for part in (hop, *hop)], [tuple, int, int, Table])
                self.assertEqual([type(part) for part in strand.shape], [str, int, int, int])

    def test_equal_delays_make_rings_of_two(self):
        song = Song(2, 5, (3, C), (3, U))
        self.assertEqual([strand.places for strand in strands(song)], [(0, 3), (1, 4), (2,)])
        self.assertEqual([strand.hops for strand in strands(song)],
                         [((0, 3, C), (3, 0, -U)), ((1, 4, C), (4, 1, -U)), ()])
        self.assertEqual([strand.shape for strand in strands(song)], [("ring", 2, 1, 1)] * 2 + [("line", 1, 0, 0)])

    def test_the_table_of_a_hop_back_is_turned(self):
        song = Song(2, 4, (2, C), (3, C))
        self.assertEqual(strand_at(song, 0).hops, ((1, 3, C), (3, 0, Table(((0, 2), (1, 0)))), (0, 2, C)))

    def test_the_rings(self):
        for song in bare_songs():
            d, e, g, m = tell(song)
            rings = [strand for strand in strands(song) if isinstance(strand, Ring)]
            self.assertEqual([ring.places[0] for ring in rings], list(range(max(0, g - m))))
            for ring in rings:
                self.assertEqual(ring.shape, ("ring", (d + e) // g, e // g, d // g))
                self.assertEqual(min(ring.places), ring.places[0])
                self.assertEqual(len(ring.hops), len(ring))

    def test_the_lines(self):
        for song in bare_songs():
            d, e, _, _ = tell(song)
            lines = [strand for strand in strands(song) if isinstance(strand, Line)]
            self.assertEqual(sorted(line.places[0] for line in lines), list(range(max(0, song.length - e), min(d, song.length))))
            ways = {}
            for line in lines:
                self.assertEqual(len(line.hops), len(line) - 1)
                ways.setdefault(line.shape, set()).add(tuple(there > here for here, there, _ in line.hops))
            self.assertLessEqual(len(ways), 3)
            self.assertEqual([len(way) for way in ways.values()], [1] * len(ways))

    def test_each_place_is_in_one_strand(self):
        for song in bare_songs():
            found = list(strands(song))
            self.assertEqual(sorted(place for strand in found for place in strand.places), list(range(song.length)))
            leasts = [min(strand.places) for strand in found]
            self.assertEqual(leasts, sorted(leasts))

    def test_strands_are_yielded_one_after_another(self):
        song = Song(2, 5, (3, C), (3, U))
        one, other = strands(song), strands(song)
        self.assertEqual(next(one).places, (0, 3))
        self.assertEqual([next(one).places, next(other).places], [(1, 4), (0, 3)])
        self.assertEqual([next(one).places, next(one, None), next(other).places], [(2,), None, (1, 4)])

    def test_strand_at(self):
        for song in bare_songs() + small_songs():
            for strand in strands(song):
                for place in reversed(strand.places):
                    self.assertEqual(strand_at(song, place), strand)

    def test_arguments(self):
        self.checks_song(first_of, [])
        self.checks_song(lambda song: list(strands(song=song)), [])
        self.checks_song(strand_at, ["place"])
        for song in (Song(2, 4, (2, U), (3, U)), Song(1, 1), Song(2, 40, (20, U), (20, C))):
            self.checks_arguments(strand_at, song, ("place", InvalidPlace, 0, no_integers(0, song.length - 1)))
            self.takes_names(strand_at, song, place=song.length - 1)
            self.leaves_alone(strand_at, song, 0)
            self.leaves_alone(lambda song: list(strands(song)), song)


class TestStrand(unittest.TestCase):
    def test_places_are_in_a_strand(self):
        for song in (Song(2, 5, (3, C), (3, U)), Song(2, 4, (2, U), (3, U)), Song(2, 40, (1, U)), Song(5, 1)):
            for strand in strands(song):
                for place in range(-2, song.length + 2):
                    self.assertIs(place in strand, place in strand.places)
                    self.assertIs(place not in strand, place not in strand.places)

    def test_any_other_value_is_not_in_a_strand(self):
        ring, line = strands(Song(2, 3, (2, C), (2, U)))
        for strand in (ring, line):
            for value in any_values() + [strand, U, 10 ** 5000, -10 ** 5000, strand.places, (0,), [0], str(0)]:
                inside = type(value) is int and value in strand.places
                self.assertIs(value in strand, inside)
            self.assertIs(True in strand, False)
            self.assertIs(False in strand, False)

    def test_equal_strands(self):
        def made():
            songs = [Song(2, 4, (2, U)), Song(2, 4, (2, C)), Song(2, 4, (2, U), (2, U)), Song(2, 4, (2, U), (2, C)),
                     Song(2, 4, (2, C), (2, U)), Song(2, 2), Song(2, 4, (2, U), (3, U)), Song(2, 5, (2, U), (3, U)), Song(2, 3, (2, U))]
            return [strand for song in songs for strand in strands(song)]

        def parts(strand):
            return type(strand), strand.places, [(here, there, table.rows) for here, there, table in strand.hops]
        for one, other in itertools.product(made(), made()):
            self.assertIs(one == other, parts(one) == parts(other))
            self.assertIs(one != other, parts(one) != parts(other))

    def test_the_base_tells_the_same(self):
        songs = (Song(2, 2, (1, U), (1, U)), Song(2, 2, (1, U)), Song(2, 2), Song(2, 3, (1, C)))
        found = [strand for song in songs for strand in strands(song)]
        for one in found:
            self.assertEqual([vars(Strand)[name].fget(one) for name in PARTS[:3]], [one.places, one.hops, one.shape])
            self.assertEqual(Strand.__len__(one), len(one))
            for value in (0, 1, 2, True, False, None, "0"):
                self.assertIs(Strand.__contains__(one, value), value in one)
            for other in found + [None, one.places]:
                self.assertIs(Strand.__eq__(one, other), one == other)

    def test_strands_of_different_songs_may_be_equal(self):
        self.assertEqual(strand_at(Song(2, 4, (2, U)), 1), strand_at(Song(2, 5, (2, U), (9, C)), 3))
        self.assertNotEqual(strand_at(Song(2, 4, (2, U)), 0), strand_at(Song(2, 5, (2, U)), 0))
        self.assertEqual(strand_at(Song(2, 2), 1), strand_at(Song(5, 2), 1))

    def test_lines_and_rings_are_not_equal(self):
        ring, line = strand_at(Song(2, 2, (1, U), (1, U)), 0), strand_at(Song(2, 2, (1, U)), 0)
        self.assertEqual(ring.places, line.places)
        for one, other in ((ring, line), (line, ring)):
            self.assertIs(one == other, False)
            self.assertIs(one != other, True)

    def test_values_of_every_other_kind(self):
        for strand in (strand_at(Song(2, 2, (1, U), (1, U)), 0), strand_at(Song(2, 2, (1, U)), 0)):
            for value in any_values() + [strand.places, strand.hops, strand.shape, U, Song(2, 2), errors.Barred(), Line, Ring]:
                self.assertIs(strand == value, False)
                self.assertIs(value == strand, False)
                self.assertIs(strand != value, True)
                self.assertIs(value != strand, True)


if __name__ == "__main__":
    unittest.main()
