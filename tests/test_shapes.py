"""Promises 2, 3, 7, 9 and 10 and the section of echofold/shapes.py."""

import math
import unittest

from echofold import shapes as module
from echofold.errors import InvalidNumber, InvalidPlace
from echofold.shapes import place_at, shapes, strand_of
from echofold.songs import Song
from echofold.strands import next_place, place_before, strand_at, strands
from echofold.tables import Table
from tests.far import FAR, GOLDEN, far_measures, folded_strands, multiplied, multiples
from tests.reference import great_songs, strands_of
from tests.samples import HUGE, CallCase, no_integers

U = Table(((None, 0), (0, None)))
ONE = Table([[0]])
OTHER = Table([[1]])


def bare(length, delays):
    return Song(1, length, *[(delay, table) for delay, table in zip(delays, (ONE, OTHER))])


def small_songs():
    """No echo, one echo, two echoes: every delay up to seven, every length up to their sum."""
    found = [bare(length, ()) for length in range(1, 16)]
    found += [bare(length, (d,)) for d in range(1, 8) for length in range(1, 16)]
    return found + [bare(length, (d, e)) for d in range(1, 8) for e in range(1, 8) for length in range(1, d + e + 1)]


def walked(song):
    """For each strand its kind, places, and numbers of hops on and back, by pairs of places."""
    found = []
    for kind, places, _ in strands_of(song):
        to = places[1:] + (places[:1] if kind == "ring" else ())
        on = sum(there > here for here, there in zip(places, to))
        found.append((kind, places, on, len(to) - on))
    return found


def shapes_walked(song):
    found = {}
    for kind, places, on, back in walked(song):
        shape = (kind, len(places), on, back)
        found[shape] = found.get(shape, 0) + 1
    return sorted((*shape, many) for shape, many in found.items())


def sample_places(song):
    """Places near the bounds at which something may change, and some between them."""
    d, e = song.delays
    marks = [0, song.length, d, e, song.length - d, song.length - e, song.length // 2, song.length // 3, math.gcd(d, e), GOLDEN, d + e - song.length]
    return sorted({mark + more for mark in marks for more in (-2, -1, 0, 1) if 0 <= mark + more < song.length})


class TestInterface(unittest.TestCase):
    def test_everything_is_defined_in_its_place(self):
        for name in ("shapes", "strand_of", "place_at"):
            self.assertEqual(getattr(module, name).__module__, "echofold.shapes")


class TestShapes(CallCase):
    def test_the_examples(self):
        third = FAR // 3
        self.assertEqual(shapes(Song(2, FAR, (3, U))), [("line", third, third - 1, 0, 2), ("line", third + 1, third, 0, 1)])
        self.assertEqual(shapes(Song(1, 8, (4, Table([[0]])), (6, Table([[1]])))), [("line", 4, 2, 1, 2)])

    def check_kinds(self, found):
        self.assertIs(type(found), list)
        for shape in found:
            self.assertEqual([type(part) for part in shape], [str] + [int] * 4)
            self.assertIs(type(shape), tuple)

    def test_all_songs_with_small_delays(self):
        for song in small_songs():
            found = self.leaves_alone(shapes, song)
            self.assertEqual(found, shapes_walked(song))
            self.check_kinds(found)

    def test_delays_up_to_forty(self):
        for song in great_songs(1) + great_songs(2, 39):
            found = {}
            for strand in strands(song):
                found[strand.shape] = found.get(strand.shape, 0) + 1
            self.assertEqual(shapes(song), sorted((*shape, many) for shape, many in found.items()))

    def test_far_songs_folded_from_gap_to_gap(self):
        def added(one, other):
            return (one[0] + other[0], one[1] + other[1])
        for length, delays in far_measures():
            song = bare(length, delays)
            lines, rings = folded_strands(song, (1, 0), (0, 1), (0, 0), added)
            want = [("line", on + back + 1, on, back, many) for (on, back), many in lines]
            want += [("ring", on + back, on, back, many) for (on, back), many in rings]
            self.assertEqual(self.leaves_alone(shapes, song), sorted(want))
            self.check_kinds(shapes(song))

    def test_all_places_and_links_are_on_some_strand(self):
        for length, delays in far_measures():
            song = bare(length, delays)
            d, e = song.delays
            found = shapes(song)
            self.assertEqual(sum(places * many for _, places, _, _, many in found), length)
            self.assertEqual(sum(on * many for _, _, on, _, many in found), max(0, length - d))
            self.assertEqual(sum(back * many for _, _, _, back, many in found), max(0, length - e))
            part, gaps = math.gcd(d, e), d + e - length
            rings = [shape for shape in found if shape[0] == "ring"]
            want = [("ring", (d + e) // part, e // part, d // part, part - gaps)] if part > gaps else []
            self.assertEqual(rings, want)
            lines = [shape for shape in found if shape[0] == "line"]
            self.assertLessEqual(len(lines), 3)
            self.assertEqual(sum(shape[4] for shape in lines), min(d, length) - max(0, length - e))

    def test_multiplied_songs(self):
        for song in small_songs()[::5] + great_songs(1)[::4]:
            want = shapes_walked(song)
            for times in multiples(song):
                self.assertEqual(shapes(multiplied(song, times)), [(*shape[:4], shape[4] * times) for shape in want])

    def test_one_delay_far_greater_than_the_other_one(self):
        self.assertEqual(shapes(bare(FAR, (1, FAR))), [("line", FAR, FAR - 1, 0, 1)])
        self.assertEqual(shapes(bare(FAR, (FAR, 1))), [("line", FAR, 0, FAR - 1, 1)])
        self.assertEqual(shapes(bare(FAR, (1, FAR - 1))), [("ring", FAR, FAR - 1, 1, 1)])
        self.assertEqual(shapes(bare(FAR, (FAR - 2, 2))), [("ring", FAR // 2, 1, FAR // 2 - 1, 2)])
        self.assertEqual(shapes(bare(FAR, (FAR, FAR))), [("line", 1, 0, 0, FAR)])
        self.assertEqual(shapes(bare(FAR, (FAR // 2, FAR // 2))), [("ring", 2, 1, 1, FAR // 2)])

    def test_a_result_may_be_changed(self):
        song = Song(2, FAR, (3, U))
        shapes(song).clear()
        self.assertEqual(len(shapes(song)), 2)

    def test_arguments(self):
        self.checks_song(shapes, [], near=False)
        self.takes_names(shapes, Song(2, FAR, (3, U)))


class TestStrandOf(CallCase):
    def test_the_example(self):
        self.assertEqual(strand_of(Song(2, 4, (2, U), (3, U)), 0), ("line", 1, 2))

    def test_all_places_of_songs_with_small_delays(self):
        for song in small_songs():
            for kind, places, _, _ in walked(song):
                for spot, place in enumerate(places):
                    self.assertEqual(strand_of(song, place), (kind, places[0], spot))

    def test_delays_up_to_forty(self):
        for song in great_songs(1):
            for strand in strands(song):
                for spot, place in enumerate(strand.places):
                    self.assertEqual(strand_of(song, place), (strand.shape[0], strand.places[0], spot))

    def test_multiplied_songs(self):
        for song in small_songs()[::7] + great_songs(1)[::5]:
            for times in multiples(song):
                for strand in strands(song):
                    for spot, place in list(enumerate(strand.places))[:3]:
                        for more in {0, times // 2, times - 1}:
                            want = (strand.shape[0], strand.places[0] * times + more, spot)
                            self.assertEqual(self.leaves_alone(strand_of, multiplied(song, times), place * times + more), want)

    def test_far_songs(self):
        for length, delays in far_measures():
            song = bare(length, delays)
            d, e = song.delays
            rings = max(0, math.gcd(d, e) - (d + e - length))
            for place in sample_places(song):
                kind, first, spot = found = strand_of(song, place)
                self.assertEqual([type(found), type(kind), type(first), type(spot)], [tuple, str, int, int])
                self.assertEqual(place_at(song, first, spot), place)
                self.assertEqual(place_before(song, first) is None, kind == "line")
                if kind == "ring":
                    self.assertEqual(first, place % math.gcd(d, e))
                    self.assertTrue(first < rings and spot < (d + e) // math.gcd(d, e))
                following = next_place(song, place)
                if following is not None and following != first:
                    self.assertEqual(strand_of(song, following), (kind, first, spot + 1))
                elif kind == "ring":
                    self.assertEqual(spot, (d + e) // math.gcd(d, e) - 1)
                if place_before(song, place) is None:
                    self.assertEqual((kind, first, spot), ("line", place, 0))

    def test_arguments(self):
        self.checks_song(strand_of, ["place"], near=False)
        for song in (Song(2, 4, (2, U), (3, U)), Song(1, 1), Song(2, FAR, (3, U)), Song(2, 41)):
            self.checks_arguments(strand_of, song, ("place", InvalidPlace, 0, no_integers(0, song.length - 1)))
            self.takes_names(strand_of, song, place=song.length - 1)


class TestPlaceAt(CallCase):
    def test_all_places_of_songs_with_small_delays(self):
        for song in small_songs():
            for kind, places, _, _ in walked(song):
                many = len(places)
                for at, place in enumerate(places):
                    if kind == "ring":
                        for spot in [*range(2 * many + 2), FAR - 1, FAR]:
                            self.assertEqual(place_at(song, place, spot), places[(at + spot) % many])
                        self.refuses_number(InvalidNumber, "value", FAR + 1, place_at, song, place, FAR + 1)
                    else:
                        self.assertEqual([place_at(song, place, spot) for spot in range(many - at)], list(places[at:]))
                        for spot in (many - at, many - at + 1, song.length + 1, FAR):
                            self.refuses(InvalidNumber, "value", spot, place_at, song, place, spot)

    def test_far_songs(self):
        for length, delays in far_measures():
            song = bare(length, delays)
            ends = {(kind, places) for kind, places, _, _, _ in shapes(song)}
            for place in sample_places(song):
                kind, first, spot = strand_of(song, place)
                self.assertEqual([place_at(song, place, 0), type(place_at(song, place, 0))], [place, int])
                if kind == "ring":
                    many = [places for name, places in ends if name == "ring"][0]
                    self.assertEqual(place_at(song, first, many - 1), place_before(song, first))
                    self.assertEqual([place_at(song, place, more) for more in (many, 7 * many) if more <= FAR], [place] * ((many <= FAR) + (7 * many <= FAR)))
                    self.assertEqual(place_at(song, place, FAR), place_at(song, place, FAR % many))
                    self.assertEqual(place_at(song, place, many - 1), place_before(song, place))
                    self.refuses_number(InvalidNumber, "value", FAR + 1, place_at, song, place, FAR + 1)
                else:
                    last = [places - 1 for name, places in ends if name == "line" and self.ends_at(song, first, places - 1)]
                    self.assertEqual(len(last), 1)
                    self.assertEqual(place_at(song, place, last[0] - spot), place_at(song, first, last[0]))
                    self.assertEqual(strand_of(song, place_at(song, first, last[0])), ("line", first, last[0]))
                    for more in (1, 2, FAR - (last[0] - spot)):
                        self.refuses_number(InvalidNumber, "value", last[0] - spot + more, place_at, song, place, last[0] - spot + more)

    def ends_at(self, song, first, hops):
        """Whether the line that begins with this place has so many hops."""
        try:
            return next_place(song, place_at(song, first, hops)) is None
        except InvalidNumber:
            return False

    def test_multiplied_songs(self):
        for song in small_songs()[3::9] + great_songs(1)[1::6]:
            for times in multiples(song):
                wide = multiplied(song, times)
                for place in {0, song.length // 2, song.length - 1}:
                    strand = strand_at(song, place)
                    at, many = strand.places.index(place), len(strand)
                    for more in {0, times // 2, times - 1}:
                        for spot in range(many - at):
                            self.assertEqual(self.leaves_alone(place_at, wide, place * times + more, spot), strand.places[at + spot] * times + more)
                        if strand.shape[0] == "ring":
                            self.assertEqual(place_at(wide, place * times + more, FAR), strand.places[(at + FAR) % many] * times + more)
                        else:
                            self.refuses_number(InvalidNumber, "value", many - at, place_at, wide, place * times + more, many - at)

    def test_ten_to_the_thirty_hops(self):
        self.assertEqual(place_at(bare(FAR, (1,)), 0, FAR - 1), FAR - 1)
        self.refuses_number(InvalidNumber, "value", FAR, place_at, bare(FAR, (1,)), 0, FAR)
        self.assertEqual(place_at(bare(3, (2, 1)), 0, FAR), [0, 2, 1][FAR % 3])
        self.assertEqual(place_at(bare(FAR, (GOLDEN, FAR - GOLDEN)), 5, FAR), 5)

    def test_arguments(self):
        self.checks_song(place_at, ["place", "spot"], near=False)
        for song, last in ((Song(2, 4, (2, U), (3, U)), 1), (Song(1, 1), 0), (Song(2, FAR, (3, U)), FAR // 3), (Song(2, 5, (2, U), (3, U)), FAR)):
            spots = no_integers(0, last) + [HUGE, -HUGE]
            self.checks_arguments(place_at, song, ("place", InvalidPlace, 0, no_integers(0, song.length - 1)), ("spot", InvalidNumber, 0, spots))
            self.takes_names(place_at, song, place=0, spot=last)


if __name__ == "__main__":
    unittest.main()
