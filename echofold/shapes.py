"""The shapes of the strands of songs of any length, and where on them a place is."""

from math import gcd

from echofold.basics import is_between
from echofold.circles import (circle_size, gap_groups, hops_back, hops_between, hops_from_gap, hops_to_gap, place_after,
                              ring_count)
from echofold.errors import InvalidNumber
from echofold.songs import Song, check_place, check_song


def shapes(song):
    """Return the list of tuples (kind, places, on, back, many), ascending."""
    check_song(song)
    return [shape for shape, _ in shape_samples(song)]


def strand_of(song, place):
    """Return the tuple (kind, first, spot) of the strand with this place."""
    check_song(song)
    check_place(song, place)
    hops = hops_from_gap(song, place)
    if hops is None:
        first = place % gcd(song.delays[0], song.delays[1])
        return ("ring", first, hops_between(song, first, place))
    return ("line", first_of_line(song, place, hops - 1), hops - 1)


def place_at(song, place, spot):
    """Return the place to which so many hops lead from this place."""
    check_song(song)
    check_place(song, place)
    check_hops(song, place, spot)
    return place_after(song, place, spot)


def check_hops(song, place, hops):
    """Raise InvalidNumber unless so many hops, 10 ** 30 at most, lead from this place to a place."""
    if not is_between(hops, 0, Song.FARTHEST):
        raise InvalidNumber(hops)
    limit = hops_to_gap(song, place)
    if limit is not None and hops >= limit:
        raise InvalidNumber(hops)


def first_of_line(song, place, spot):
    """Return the first place of a line, from which so many hops lead to this place."""
    # Backwards each hop leads as far as the delay back.
    return (place + spot * song.delays[1]) % circle_size(song)


def shape_samples(song):
    """Return the list of tuples (shape, first), ascending: first is where such a strand begins."""
    return sorted(line_samples(song) + ring_samples(song))


def line_samples(song):
    """Return tuples (shape, first) for the shapes of lines."""
    starts = [(place_after(song, gap, 1), many) for gap, many in gap_groups(song)]
    return [(line_shape(song, first) + (many,), first) for first, many in starts if first < song.length]


def line_shape(song, first):
    """Return the tuple (kind, places, on, back) of the line that begins at this place."""
    places = hops_to_gap(song, first)
    back = hops_back(song, first, places - 1)
    return ("line", places, places - 1 - back, back)


def ring_samples(song):
    """Return a list with the tuple (shape, first) of the rings, if there are any."""
    many = ring_count(song)
    return [] if many == 0 else [(ring_shape(song) + (many,), 0)]


def ring_shape(song):
    """Return the tuple (kind, places, on, back) of all rings."""
    on, back = song.delays
    part = gcd(on, back)
    return ("ring", (on + back) // part, back // part, on // part)
