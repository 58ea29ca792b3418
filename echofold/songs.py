"""Songs: a number of letters, a length and at most two echoes."""

from echofold.basics import is_between, read_integer
from echofold.errors import InvalidEcho, InvalidNumber, InvalidPlace, InvalidSong, InvalidText, NoEcho, TooFar, TooLong
from echofold.tables import Table, check_letters, table_of_text

MOST_ECHOES = 2


class Song:
    """Rows of so many letters and of this length meet their echoes, tuples (delay, table)."""

    NEAR = 40
    # 10 ** 30; a class value is written out.
    FARTHEST = 1000000000000000000000000000000

    def __init__(self, letters, length, *echoes):
        check_letters(letters)
        if not is_between(length, 1, Song.FARTHEST):
            raise InvalidNumber(length)
        for index, echo in enumerate(echoes):
            if index >= MOST_ECHOES or not is_echo(echo, letters):
                raise InvalidEcho(echo)
        if len(echoes) == MOST_ECHOES:
            check_reach(length, echoes[0][0] + echoes[1][0])
        self._letters = letters
        self._length = length
        self._echoes = echoes

    @property
    def letters(self):
        """The number of letters."""
        return self._letters

    @property
    def length(self):
        """The number of places."""
        return self._length

    @property
    def echoes(self):
        """The echoes, as a tuple of tuples (delay, table)."""
        return self._echoes

    @property
    def delays(self):
        """The tuple of both delays; that of a missing echo counts as the length."""
        found = [echo[0] for echo in self._echoes] + [self._length] * MOST_ECHOES
        return (found[0], found[1])

    @property
    def is_near(self):
        """Whether all places are few enough to go through."""
        return self._length <= Song.NEAR

    @property
    def text(self):
        """The song as Song.read takes it."""
        first = f"song {self._letters} {self._length}"
        return "\n".join([first] + [f"echo {delay} {table.text}" for delay, table in self._echoes])

    def with_length(self, length):
        """Return the song with the same letters and echoes, and this length."""
        return Song(self._letters, length, *self._echoes)

    def with_echo(self, delay, table):
        """Return the song with one more echo."""
        return Song(self._letters, self._length, *self._echoes, (delay, table))

    def without_echo(self, index):
        """Return the song without the echo that has this index."""
        if not is_between(index, 0, len(self._echoes) - 1):
            raise NoEcho(index)
        left = self._echoes[:index] + self._echoes[index + 1:]
        return Song(self._letters, self._length, *left)

    @staticmethod
    def read(text):
        """Return the song with this text."""
        if not isinstance(text, str):
            raise InvalidText(0)
        song = None
        for number, line in enumerate(text.split("\n")):
            song = begun(line) if number == 0 else continued(song, line)
            if song is None:
                raise InvalidText(number)
        return song

    def __eq__(self, other):
        return (isinstance(other, Song) and self._letters == other._letters
                and self._length == other._length and self._echoes == other._echoes)


def check_song(song):
    """Raise InvalidSong unless this is a song."""
    if not isinstance(song, Song):
        raise InvalidSong(song)


def check_near(song):
    """Raise InvalidSong unless this is a song, and TooFar unless it is near."""
    check_song(song)
    if not song.is_near:
        raise TooFar(Song.NEAR)


def is_place(song, value):
    """Tell whether the value is a place of the song."""
    return is_between(value, 0, song.length - 1)


def check_place(song, place):
    """Raise InvalidPlace unless this is a place of the song."""
    if not is_place(song, place):
        raise InvalidPlace(place)


def is_echo(value, letters):
    """Tell whether the value is a tuple (delay, table) with a table of so many letters."""
    if not isinstance(value, tuple) or len(value) != 2:
        return False
    delay, table = value
    return is_between(delay, 1, Song.FARTHEST) and isinstance(table, Table) and table.letters == letters


def check_reach(length, reach):
    """Raise TooLong if the length is greater than the sum of both delays."""
    if length > reach:
        raise TooLong(reach)


def begun(line):
    """Return the song without echoes whose text is this line, or None."""
    words = line.split(" ")
    if len(words) != 3 or words[0] != "song":
        return None
    letters = read_integer(words[1])
    length = read_integer(words[2])
    try:
        return Song(letters, length)
    except InvalidNumber:
        return None


def continued(song, line):
    """Return the song whose text is that of this song and one more line, or None."""
    words = line.split(" ", 2)
    if len(words) != 3 or words[0] != "echo":
        return None
    delay = read_integer(words[1])
    table = table_of_text(words[2])
    try:
        return song.with_echo(delay, table)
    except (InvalidEcho, TooLong):
        return None
