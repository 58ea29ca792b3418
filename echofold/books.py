"""Books: a near song with wishes, what is done to them, and what was taken back."""

from echofold.basics import is_between
from echofold.choices import letters_met
from echofold.errors import (InvalidDeed, InvalidEcho, InvalidNumber, InvalidPlace, InvalidWishes, NoEcho,
                             NothingToRedo, NothingToUndo, TooFar, TooLong)
from echofold.lightest import lightest
from echofold.prices import is_wish
from echofold.songs import Song, check_near, check_place
from echofold.strands import all_strands
from echofold.ways import letters_not_barred, row_total

# How many things a deed is made of, its word included.
SIZES = {"wish": 3, "free": 2, "length": 2, "echo": 3, "drop": 2}


class Book:
    """A near song with wishes; its states, tuples (song, wishes), can be taken back and done again."""

    def __init__(self, song):
        check_near(song)
        self._states = [(song, {})]
        self._moment = 0

    @property
    def song(self):
        """The song as it is now."""
        return self._states[self._moment][0]

    @property
    def wishes(self):
        """A new dict of the wishes, ascending by places."""
        wishes = self._states[self._moment][1]
        return {place: wishes[place] for place in sorted(wishes)}

    @property
    def moment(self):
        """How many do and run are done and not taken back."""
        return self._moment

    def do(self, deed):
        """Do one deed."""
        if not is_deed(deed):
            raise InvalidDeed(0)
        self._keep(state_after(self._states[self._moment], deed))

    def run(self, *deeds):
        """Do all deeds as one, or none of them."""
        self._keep(state_after_all(self._states[self._moment], deeds))

    def undo(self):
        """Take back the last do or run."""
        if self._moment == 0:
            raise NothingToUndo()
        self._moment = self._moment - 1

    def redo(self):
        """Do again what was taken back last."""
        if self._moment == len(self._states) - 1:
            raise NothingToRedo()
        self._moment = self._moment + 1

    def tried(self, *deeds):
        """Return the tuple (least price, number of rows) that the book would have after these deeds."""
        song, wishes = state_after_all(self._states[self._moment], deeds)
        found = lightest(song, wishes)
        least = None if found[0] == "none" else found[1]
        return (least, rows_not_barred(song, wishes))

    def lightest(self):
        """Return what the function of this name returns for the song and the wishes."""
        return lightest(self.song, self.wishes)

    def row_count(self):
        """Return the number of the allowed rows without a letter whose wish is None."""
        return rows_not_barred(self.song, self.wishes)

    def letters_left(self):
        """Return for each place the tuple of the letters that some of these rows has there."""
        return letters_met(self.song, letters_not_barred(self.song, self.wishes))

    def _keep(self, state):
        """Put a new state behind the present one, in place of all that were taken back."""
        self._states = self._states[:self._moment + 1] + [state]
        self._moment = self._moment + 1


def rows_not_barred(song, wishes):
    """Return the number of the allowed rows without a letter whose wish is None."""
    return row_total(all_strands(song), letters_not_barred(song, wishes))


def is_deed(value):
    """Tell whether the value is a tuple of a word and so many things."""
    if not isinstance(value, tuple) or len(value) == 0 or not isinstance(value[0], str):
        return False
    return value[0] in SIZES and len(value) == SIZES[value[0]]


def state_after_all(state, deeds):
    """Return the state (song, wishes) after these deeds, or raise InvalidDeed with the index of the first wrong one."""
    for index, deed in enumerate(deeds):
        if not is_deed(deed):
            raise InvalidDeed(index)
        try:
            state = state_after(state, deed)
        except (InvalidPlace, InvalidWishes, InvalidNumber, TooFar, InvalidEcho, TooLong, NoEcho):
            raise InvalidDeed(index)
    return state


def state_after(state, deed):
    """Return the state (song, wishes) after one deed."""
    song, wishes = state
    word = deed[0]
    if word == "wish":
        return (song, with_wish(song, wishes, deed[1], deed[2]))
    if word == "free":
        check_place(song, deed[1])
        return (song, {place: wishes[place] for place in wishes if place != deed[1]})
    if word == "length":
        return with_near_length(song, wishes, deed[1])
    if word == "echo":
        return (song.with_echo(deed[1], deed[2]), wishes)
    return (song.without_echo(deed[1]), wishes)


def with_wish(song, wishes, place, prices):
    """Return the wishes with these prices at the place."""
    check_place(song, place)
    if not is_wish(song, prices):
        raise InvalidWishes(prices)
    made = {other: wishes[other] for other in wishes}
    made[place] = prices
    return made


def with_near_length(song, wishes, length):
    """Return the state (song, wishes) with another length, which has to be near."""
    if not is_between(length, 1, Song.FARTHEST):
        raise InvalidNumber(length)
    if length > Song.NEAR:
        raise TooFar(Song.NEAR)
    return (song.with_length(length), {place: wishes[place] for place in wishes if place < length})
