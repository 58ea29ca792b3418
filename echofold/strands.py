"""Strands: the places of a song in the order in which its hops lead along them."""

from echofold.basics import is_whole
from echofold.songs import check_near, check_place, check_song


class Strand:
    """Places with a hop from each to the next one: the base of lines and rings."""

    KIND = "strand"

    def __init__(self, places, hops):
        self._places = tuple(places)
        self._hops = tuple(hops)

    @property
    def places(self):
        """The places, in order."""
        return self._places

    @property
    def hops(self):
        """A tuple (place, next place, table of the hop) for each hop, in order."""
        return self._hops

    @property
    def shape(self):
        """The tuple (kind, places, on, back)."""
        return shape_of(self.KIND, self._places, self._hops)

    def __len__(self):
        return len(self._places)

    def __contains__(self, x):
        return is_whole(x) and x in self._places

    def __eq__(self, other):
        return (isinstance(other, Strand) and self.KIND == other.KIND
                and self._places == other._places and self._hops == other._hops)


class Line(Strand):
    """A strand with no hop to its first place and none from its last one."""

    KIND = "line"

    @property
    def places(self):
        """The places, in order."""
        return self._places

    @property
    def hops(self):
        """A tuple (place, next place, table of the hop) for each hop, in order."""
        return self._hops

    @property
    def shape(self):
        """The tuple (kind, places, on, back)."""
        return shape_of(self.KIND, self._places, self._hops)

    def __len__(self):
        return len(self._places)

    def __contains__(self, x):
        return is_whole(x) and x in self._places

    def __eq__(self, other):
        return isinstance(other, Line) and self._places == other._places and self._hops == other._hops


class Ring(Strand):
    """A strand with a hop from its last place to its first one, which is its least one."""

    KIND = "ring"

    @property
    def places(self):
        """The places, in order."""
        return self._places

    @property
    def hops(self):
        """A tuple (place, next place, table of the hop) for each hop, in order."""
        return self._hops

    @property
    def shape(self):
        """The tuple (kind, places, on, back)."""
        return shape_of(self.KIND, self._places, self._hops)

    def __len__(self):
        return len(self._places)

    def __contains__(self, x):
        return is_whole(x) and x in self._places

    def __eq__(self, other):
        return isinstance(other, Ring) and self._places == other._places and self._hops == other._hops


def next_place(song, place):
    """Return the place to which a hop leads from this place, or None."""
    check_song(song)
    check_place(song, place)
    on, back = song.delays
    # A song is at most as long as both delays together: it never has both hops.
    if place + on < song.length:
        return place + on
    return place - back if place >= back else None


def place_before(song, place):
    """Return the place from which a hop leads to this place, or None."""
    check_song(song)
    check_place(song, place)
    on, back = song.delays
    if place >= on:
        return place - on
    return place + back if place + back < song.length else None


def strands(song):
    """Yield the strands of a near song in the order of their least places."""
    check_near(song)
    for strand in all_strands(song):
        yield strand


def strand_at(song, place):
    """Return the strand of a near song that has this place."""
    check_near(song)
    check_place(song, place)
    return strand_with(song, place)


def all_strands(song):
    """Return the list of the strands in the order of their least places."""
    found = []
    seen = set()
    for place in range(song.length):
        if place not in seen:
            strand = strand_with(song, place)
            found.append(strand)
            for other in strand.places:
                seen.add(other)
    return found


def inner_hops(strand):
    """Return the hops between neighbours: all but the one of a ring that leads to its first place."""
    return strand.hops[:len(strand) - 1]


def strand_with(song, place):
    """Return the strand that has this place."""
    first = line_start(song, place)
    if first is not None:
        places = places_from(song, first)
        return Line(places, hops_from(song, places))
    # Any place of a ring leads to all others, so the least one is known only after a round.
    places = places_from(song, min(places_from(song, place)))
    return Ring(places, hops_from(song, places))


def line_start(song, place):
    """Return the first place of the line that has this place, or None if it is on a ring."""
    first = place
    before = place_before(song, place)
    while before is not None and before != place:
        first = before
        before = place_before(song, before)
    return first if before is None else None


def places_from(song, place):
    """Return the places from this one on, up to the end of the line or once around the ring."""
    found = [place]
    there = next_place(song, place)
    while there is not None and there != place:
        found.append(there)
        there = next_place(song, there)
    return found


def hops_from(song, places):
    """Return the hops from these places, as tuples (place, next place, table of the hop)."""
    found = []
    for place in places:
        there = next_place(song, place)
        if there is not None:
            found.append((place, there, hop_table(song, place, there)))
    return found


def hop_table(song, place, there):
    """Return the table of the hop from a place to the next one."""
    if there > place:
        return song.echoes[0][1]
    return -song.echoes[1][1]


def shape_of(kind, places, hops):
    """Return the tuple (kind, places, on, back) of a strand."""
    on = len([here for here, there, _ in hops if there > here])
    return (kind, len(places), on, len(hops) - on)
