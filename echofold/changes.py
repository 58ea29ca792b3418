"""Songs made of other songs, and echoes made of a row."""

from echofold.basics import is_between
from echofold.errors import InvalidNumber, InvalidRow, InvalidSong, InvalidTable
from echofold.songs import Song, check_song
from echofold.tables import Table, check_letters, is_letter

MOST_PARTS = 40
MOST_LETTERS_OF_ROW = 40


def turned_song(song):
    """Return the song whose rows are those of the song read backwards, at the same prices."""
    check_song(song)
    echoes = [(delay, -table) for delay, table in song.echoes]
    return Song(song.letters, song.length, *echoes)


def renamed(song, letters):
    """Return the song in which letter a has become letters[a]."""
    check_song(song)
    if not is_order(letters, song.letters):
        raise InvalidNumber(letters)
    echoes = [(delay, renamed_table(table, letters)) for delay, table in song.echoes]
    return Song(song.letters, song.length, *echoes)


def woven(*songs):
    """Return the song whose rows have the letters of rows of these songs in turn."""
    check_alike(songs)
    count = len(songs)
    length = sum([song.length for song in songs])
    for index, song in enumerate(songs):
        if song.length != part_length(length, index, count):
            raise InvalidSong(song)
    echoes = [(delay * count, table) for delay, table in songs[0].echoes]
    if max([length] + [delay for delay, _ in echoes]) > Song.FARTHEST:
        raise InvalidNumber(length)
    return Song(songs[0].letters, length, *echoes)


def unwoven(song, parts):
    """Return the list of so many songs of which the song is woven."""
    check_song(song)
    if not is_between(parts, 1, min(MOST_PARTS, song.length)) or not are_divided(song, parts):
        raise InvalidNumber(parts)
    echoes = [(delay // parts, table) for delay, table in song.echoes]
    return [Song(song.letters, part_length(song.length, index, parts), *echoes) for index in range(parts)]


def own_delays(table, row):
    """Return the list of the delays, ascending, at which no pair of a row is barred."""
    if not isinstance(table, Table):
        raise InvalidTable(table)
    check_letters_of_row(row, table.letters)
    return [delay for delay in range(1, len(row)) if None not in prices_of_pairs(table, row, delay)]


def own_table(letters, row, delay):
    """Return the table with the price 0 for each pair of letters that a row has at this delay, and no other price."""
    check_letters(letters)
    check_letters_of_row(row, letters)
    if not is_between(delay, 1, Song.FARTHEST):
        raise InvalidNumber(delay)
    pairs = pairs_of_row(row, delay)
    return Table.pairs(letters, *pairs)


def is_order(value, letters):
    """Tell whether the value is a tuple of all of so many letters in any order."""
    if not isinstance(value, tuple) or len(value) != letters:
        return False
    return all([is_letter(letter, letters) and value.count(letter) == 1 for letter in value])


def renamed_table(table, letters):
    """Return the table in which letter a has become letters[a]."""
    many = range(table.letters)
    old = [letters.index(a) for a in many]
    return Table([[table.rows[old[a]][old[b]] for b in many] for a in many])


def check_alike(songs):
    """Raise InvalidSong for the first that is not a song with the letters and echoes of the first one."""
    if len(songs) == 0:
        raise InvalidSong(songs)
    for song in songs:
        check_song(song)
        if song.letters != songs[0].letters or song.echoes != songs[0].echoes:
            raise InvalidSong(song)


def part_length(length, index, count):
    """Return how many integers below the length leave this rest when divided by the count."""
    return (length - index + count - 1) // count


def are_divided(song, parts):
    """Tell whether the number divides the delays of all echoes."""
    return all([delay % parts == 0 for delay, _ in song.echoes])


def check_letters_of_row(row, letters):
    """Raise InvalidRow unless this is a tuple of 1 to 40 of so many letters."""
    if not isinstance(row, tuple) or not 1 <= len(row) <= MOST_LETTERS_OF_ROW:
        raise InvalidRow(row)
    if not all([is_letter(letter, letters) for letter in row]):
        raise InvalidRow(row)


def pairs_of_row(row, delay):
    """Return the list of the pairs of letters of which the second one is so many places after the first one."""
    return list(zip(row, row[delay:]))


def prices_of_pairs(table, row, delay):
    """Return the list of the prices of the pairs of a row at this delay."""
    return [table.price(first, second) for first, second in pairs_of_row(row, delay)]
