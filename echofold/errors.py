"""The errors of Echofold: one class for each kind of failure, with the values it names as attributes.

The messages leave the values out: Python does not write integers of more than 4,300 digits.
"""


class InvalidTable(ValueError):
    """The value is not a list of as many lists of prices as it has letters."""

    def __init__(self, value):
        super().__init__("not a table")
        self.value = value


class InvalidEcho(ValueError):
    """The value is not an echo that the song can have."""

    def __init__(self, value):
        super().__init__("not an echo of the song")
        self.value = value


class InvalidSong(ValueError):
    """The value is not a song, or not one that fits here."""

    def __init__(self, value):
        super().__init__("not a song that fits here")
        self.value = value


class InvalidRow(ValueError):
    """The value is not a row of the song."""

    def __init__(self, value):
        super().__init__("not a row")
        self.value = value


class InvalidWishes(ValueError):
    """The value is not a dict from places to tuples of prices."""

    def __init__(self, value):
        super().__init__("not wishes")
        self.value = value


class InvalidFixed(ValueError):
    """The value is not a dict from places to letters."""

    def __init__(self, value):
        super().__init__("not fixed letters")
        self.value = value


class InvalidPlace(ValueError):
    """The value is not a place of the song."""

    def __init__(self, value):
        super().__init__("not a place")
        self.value = value


class InvalidNumber(ValueError):
    """The value is not a number, or not one within the limits that hold here."""

    def __init__(self, value):
        super().__init__("not a number that fits here")
        self.value = value


class InvalidText(ValueError):
    """The text goes wrong at this line, counted from 0."""

    def __init__(self, line):
        super().__init__("not the text of a table or song")
        self.line = line


class InvalidLine(ValueError):
    """The value is not a line that the console knows."""

    def __init__(self, value):
        super().__init__("not a line of the console")
        self.value = value


class InvalidDeed(ValueError):
    """The deed with this index, counted from 0, cannot be done."""

    def __init__(self, index):
        super().__init__("not a deed that can be done")
        self.index = index


class OtherLetters(ValueError):
    """Two tables have different numbers of letters."""

    def __init__(self):
        super().__init__("the tables have different numbers of letters")


class Barred(LookupError):
    """The row is not allowed, or none is."""

    def __init__(self):
        super().__init__("barred")


class NoEcho(IndexError):
    """The song has no echo with this index."""

    def __init__(self, index):
        super().__init__("no echo with this index")
        self.index = index


class NoRow(IndexError):
    """No allowed row has this number."""

    def __init__(self, number):
        super().__init__("no row with this number")
        self.number = number


class TooLong(OverflowError):
    """The song is longer than the limit, the sum of its two delays."""

    def __init__(self, limit):
        super().__init__("longer than the sum of the delays")
        self.limit = limit


class TooFar(OverflowError):
    """The song is longer than the limit up to which songs are near."""

    def __init__(self, limit):
        super().__init__("not a near song")
        self.limit = limit


class NothingToUndo(RuntimeError):
    """Nothing is done that could be taken back."""

    def __init__(self):
        super().__init__("nothing to undo")


class NothingToRedo(RuntimeError):
    """Nothing is taken back that could be done again."""

    def __init__(self):
        super().__init__("nothing to redo")
