"""Wishes as a list with a tuple of prices for each place of a song."""

from echofold.songs import Song
from echofold.tables import Table


def wished(song, wishes):
    """Return the list with the wish for each place: zeros where there is none."""
    given = {} if wishes is None else wishes
    return [given.get(place, (0,) * song.letters) for place in range(song.length)]


def only(wish, letter):
    """Return the wish in which all letters but this one are barred."""
    return tuple([worth if a == letter else None for a, worth in enumerate(wish)])


def with_letter(added, place, letter):
    """Return the wishes, one for each place, in which all letters but this one are barred at this place."""
    return added[:place] + [only(added[place], letter)] + added[place + 1:]


def wishes_for_letters(song, fixed):
    """Return the wishes that bar all letters but the fixed ones."""
    given = {} if fixed is None else fixed
    return {place: only((0,) * song.letters, letter) for place, letter in given.items()}


def wishes_against_changes(song, row):
    """Return the wishes that cost 1 for each place at which a letter differs from the row."""
    return {place: tuple([0 if a == letter else 1 for a in range(song.letters)]) for place, letter in enumerate(row)}


def unpriced(song):
    """Return the song with the same allowed rows, each of them at the price 0."""
    echoes = [(delay, free_table(table)) for delay, table in song.echoes]
    return Song(song.letters, song.length, *echoes)


def free_table(table):
    """Return the table in which all prices but the barred ones are 0."""
    return Table([[None if worth is None else 0 for worth in row] for row in table.rows])
