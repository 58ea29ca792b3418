"""A book as the document tells it, for the tests: copies of all its states, each one whole."""

from echofold.errors import (InvalidDeed, InvalidEcho, InvalidNumber, InvalidPlace, InvalidWishes, NoEcho, NothingToRedo,
                             NothingToUndo, TooFar, TooLong)
from echofold.songs import Song
from echofold.tables import Table
from tests.reference import all_rows, price_of

FAR = 10 ** 30


class Wrong(Exception):
    """A deed that is refused: the error class, its field and the value of the field."""


def fits(value, low, high):
    return type(value) is int and low <= value <= high


def is_form(deed):
    sizes = {"wish": 3, "free": 2, "length": 2, "echo": 3, "drop": 2}
    return type(deed) is tuple and len(deed) > 0 and type(deed[0]) is str and sizes.get(deed[0]) == len(deed)


def are_prices(value, letters):
    return type(value) is tuple and len(value) == letters and all(price is None or (type(price) is int and price >= 0) for price in value)


def after(state, deed):
    """The state (letters, length, echoes, wishes) after a deed, as the document tells it."""
    letters, length, echoes, wishes = state
    if not is_form(deed):
        raise Wrong(InvalidDeed, "index", 0)
    word, first = deed[:2]
    if word in ("wish", "free"):
        if not fits(first, 0, length - 1):
            raise Wrong(InvalidPlace, "value", first)
        if word == "free":
            return letters, length, echoes, {place: wish for place, wish in wishes.items() if place != first}
        if not are_prices(deed[2], letters):
            raise Wrong(InvalidWishes, "value", deed[2])
        return letters, length, echoes, {**wishes, first: deed[2]}
    if word == "length":
        if not fits(first, 1, FAR):
            raise Wrong(InvalidNumber, "value", first)
        if first > 40:
            raise Wrong(TooFar, "limit", 40)
        if len(echoes) == 2 and first > echoes[0][0] + echoes[1][0]:
            raise Wrong(TooLong, "limit", echoes[0][0] + echoes[1][0])
        return letters, first, echoes, {place: wish for place, wish in wishes.items() if place < first}
    if word == "drop":
        if not fits(first, 0, len(echoes) - 1):
            raise Wrong(NoEcho, "index", first)
        return letters, length, echoes[:first] + echoes[first + 1:], wishes
    if len(echoes) == 2 or not fits(first, 1, FAR) or not isinstance(deed[2], Table) or len(deed[2].rows) != letters:
        raise Wrong(InvalidEcho, "value", deed[1:])
    if echoes and length > echoes[0][0] + first:
        raise Wrong(TooLong, "limit", echoes[0][0] + first)
    return letters, length, echoes + (deed[1:],), wishes


def after_all(state, deeds):
    for index, deed in enumerate(deeds):
        try:
            state = after(state, deed)
        except Wrong:
            raise Wrong(InvalidDeed, "index", index)
    return state


class Copies:
    """All states of a book, each one whole, and those that were taken back."""

    def __init__(self, song):
        self.past = [(song.letters, song.length, song.echoes, {})]
        self.future = []

    def run(self, deeds):
        self.past.append(after_all(self.past[-1], deeds))
        self.future = []

    def do(self, deed):
        self.past.append(after(self.past[-1], deed))
        self.future = []

    def undo(self):
        if len(self.past) == 1:
            raise Wrong(NothingToUndo, None, None)
        self.future.append(self.past.pop())

    def redo(self):
        if not self.future:
            raise Wrong(NothingToRedo, None, None)
        self.past.append(self.future.pop())


def song_of(state):
    return Song(state[0], state[1], *state[2])


def rows_left(song, wishes):
    """All allowed rows without a letter whose wish is None."""
    return [row for row in all_rows(song) if price_of(song, row, wishes) is not None]
