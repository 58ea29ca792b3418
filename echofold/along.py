"""The tables of many hops one after another, and least prices with a few wishes, in songs of any length."""

from echofold.basics import least, total
from echofold.errors import InvalidWishes
from echofold.folds import ends, hop_count, price_of_many, table_parts
from echofold.prices import are_wishes
from echofold.shapes import check_hops, line_shape, ring_shape, shape_samples, strand_of
from echofold.songs import check_place, check_song
from echofold.tables import Table
from echofold.words import put_together

MOST_WISHES = 20


def table_along(song, place, hops):
    """Return the tables of so many hops from this place on, composed in order."""
    check_song(song)
    check_place(song, place)
    check_hops(song, place, hops)
    return put_together(song, place, hops, table_parts(song))


def least_with(song, wishes):
    """Return the least price of all rows with wishes at a few places, or None."""
    check_song(song)
    if not are_wishes(song, wishes) or len(wishes) > MOST_WISHES:
        raise InvalidWishes(wishes)
    parts = table_parts(song)
    spots = wished_spots(song, wishes)
    found = [strand_price(song, strand, spots[strand], wishes, parts) for strand in spots]
    taken = [shape_of_strand(song, strand) for strand in spots]
    for shape, first in shape_samples(song):
        others = shape[4] - taken.count(shape[:4])
        found.append(price_of_many(song, shape[:4] + (others,), first, parts))
    return total(found)


def wished_spots(song, wishes):
    """Return a dict from the tuple (kind, first) of each strand with wishes to a dict from its spots to places."""
    found = {}
    for place in wishes:
        kind, first, spot = strand_of(song, place)
        strand = (kind, first)
        if strand not in found:
            found[strand] = {}
        found[strand][spot] = place
    return found


def shape_of_strand(song, strand):
    """Return the tuple (kind, places, on, back) of the strand (kind, first)."""
    kind, first = strand
    return ring_shape(song) if kind == "ring" else line_shape(song, first)


def strand_price(song, strand, spots, wishes, parts):
    """Return the least price of a strand with wishes at these of its spots, or None."""
    hops = hop_count(shape_of_strand(song, strand))
    whole = Table.likeness(song.letters)
    at = 0
    here = strand[1]
    for spot in sorted(spots):
        whole = whole * put_together(song, here, spot - at, parts) * table_of_wish(wishes[spots[spot]])
        at = spot
        here = spots[spot]
    whole = whole * put_together(song, here, hops - at, parts)
    return least(ends(strand[0], whole.rows))


def table_of_wish(wish):
    """Return the table with the price of each letter for the letter followed by itself, and no other price."""
    return Table([[worth if a == b else None for b in range(len(wish))] for a, worth in enumerate(wish)])
