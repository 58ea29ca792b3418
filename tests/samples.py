"""What several tests share: values of every kind, tables to try, and a check of errors."""

import copy
import unittest

from echofold.errors import InvalidSong, TooFar
from echofold.songs import Song
from echofold.tables import Table

HUGE = 10 ** 5000
SIXTY = 10 ** 60 - 1


def nested(depth, leaf):
    """A value that is nested so deep, by lists, tuples and dicts in turn."""
    value = leaf
    for level in range(depth):
        value = ([value], (value,), {level: value})[level % 3]
    return value


def any_values():
    """Values of all the kinds that the document calls any value, new ones for each call."""
    numbers = [-SIXTY, -10 ** 30, -6, -2, -1, 0, 1, 2, 3, 4, 5, 6, 7, 40, 41, 10 ** 30 - 1, 10 ** 30, 10 ** 30 + 1, SIXTY]
    words = ["", " ", "0", "1", "-", "a", "None", "- 0 / 0 -", "song 2 4", "\n", "0 0\n0 0", "~" * 70]
    tuples = [(), (0,), (1,), (None,), (True,), (0, 0), (0, 1), (2, 3), (0, 1, 0), ("0", "1"), ((),), ([0],), ({},), (0, (1,))]
    lists = [[], [0], [None], [True], [0, 1], [0, 1, 0], ["0"], [[]], [()], [{}], [0, [1]], [None] * 6]
    dicts = [{}, {0: 0}, {0: (0,)}, {"0": 1}, {None: None}, {(0, 1): [2]}]
    deep = [nested(8, 0), nested(7, None), nested(8, "a"), nested(6, ())]
    return [None, True, False] + numbers + words + tuples + lists + dicts + deep


def is_integer(value, low, high):
    return type(value) is int and low <= value <= high


def no_integers(low, high):
    """Values of all kinds that are no integers from low to high."""
    return [value for value in any_values() + [low - 1, high + 1] if not is_integer(value, low, high)]


def made_rows(letters, seed):
    """Rows of a table that look different for each seed; some prices are None."""
    return [[None if (a * 7 + b * 5 + seed * 3) % 4 == 0 else (a * a * 31 + b * 17 + seed * 13) % 23
             for b in range(letters)] for a in range(letters)]


class ErrorCase(unittest.TestCase):
    """Tests with a check of which error a call raises, with which field, and that it changes nothing."""

    def caught(self, error, call, /, *values, **named):
        before = copy.deepcopy((values, named))
        with self.assertRaises(error) as context:
            call(*values, **named)
        self.assertIs(type(context.exception), error)
        self.assertEqual((values, named), before)
        return context.exception

    def refuses(self, error, field, value, call, /, *values, **named):
        """The field has to be the very object."""
        self.assertIs(getattr(self.caught(error, call, *values, **named), field), value)

    def refuses_number(self, error, field, value, call, /, *values, **named):
        """The field has to be this integer, which the program computes."""
        found = getattr(self.caught(error, call, *values, **named), field)
        self.assertIs(type(found), int)
        self.assertEqual(found, value)


def not_songs():
    """Values of all kinds that are no songs."""
    song = Song(2, 4, (2, Table.silence(2)))
    return any_values() + [song.text, [song], (song,), {0: song}, song.echoes, song.echoes[0][1], Song]


def far_songs():
    """Songs with more than forty places, with no, one and two echoes."""
    table = Table(((None, 0), (0, None)))
    return [Song(2, 41), Song(2, 41, (1, table)), Song(2, 41, (20, table), (21, table)), Song(2, 42, (50, table), (21, table)),
            Song(2, 10 ** 30), Song(2, 10 ** 30, (3, table)), Song(2, 10 ** 30, (1, table), (10 ** 30, table))]


class CallCase(ErrorCase):
    """Tests of functions that have a song as their first argument."""

    def checks_song(self, call, names, near=True):
        """The song is looked at first, whatever the other arguments are, and TooFar comes before all that they raise."""
        others = [[None] * len(names), [[True]] * len(names), [-1] * len(names)]
        for rest in others:
            named = dict(zip(reversed(names), rest))
            for value in not_songs():
                self.refuses(InvalidSong, "value", value, call, value, *rest)
                self.refuses(InvalidSong, "value", value, call, **named, song=value)
            for song in far_songs() if near else []:
                self.refuses_number(TooFar, "limit", 40, call, song, *rest)
                self.refuses_number(TooFar, "limit", 40, call, **named, song=song)

    def checks_arguments(self, call, song, *parameters):
        """Each parameter (name, error, right value, wrong values) is looked at before the ones behind it."""
        names = [name for name, _, _, _ in parameters]
        right = [value for _, _, value, _ in parameters]
        for at, (_, error, _, wrong) in enumerate(parameters):
            for behind in (right[at + 1:], [values[0] for _, _, _, values in parameters[at + 1:]]):
                for value in wrong:
                    values = right[:at] + [value] + behind
                    self.refuses(error, "value", value, call, song, *values)
                    self.refuses(error, "value", value, call, **dict(zip(reversed(names), reversed(values))), song=song)

    def takes_names(self, call, song, **named):
        """Arguments by name, in any order, give what they give by position."""
        want = call(song, *named.values())
        self.assertEqual(call(song=song, **named), want)
        self.assertEqual(call(**dict(reversed(list(named.items()))), song=song), want)
        self.assertEqual(call(song, **named), want)

    def leaves_alone(self, call, *values):
        """Equal calls return equal results, and nothing that is passed is changed."""
        before = copy.deepcopy(values)
        result = call(*values)
        self.assertEqual(call(*values), result)
        self.assertEqual(values, before)
        return result


def wrong_rows(song):
    """Values of all kinds that are no rows of the song."""
    right = (song.letters - 1,) * song.length
    found = [value for value in any_values() if not (isinstance(value, tuple) and len(value) == song.length)]
    found += [list(right), right[1:], right + (0,), (), (right,), [right], {0: right}, "0" * song.length, dict(enumerate(right))]
    for at in range(song.length):
        for letter in (song.letters, -1, True, False, None, "0", "", (), (0,), [0], {}, 10 ** 59, -10 ** 59):
            found.append(right[:at] + (letter,) + right[at + 1:])
    return found


def wrong_wishes(song):
    """Values of all kinds that are no wishes of the song, and not None."""
    right, last = (3,) * song.letters, song.length - 1
    found = [value for value in any_values() if value not in (None, {}, {0: (0,)})]
    found += [[right], (right,), [(0, right)], ((0, right),), {True: right}, {False: right}, {-1: right}, {song.length: right},
              {10 ** 30: right}, {"0": right}, {None: right}, {(): right}, {(0,): right}, {0: list(right)}, {0: right[1:]},
              {0: right + (0,)}, {0: ()}, {0: 3}, {0: None}, {0: {}}, {0: (right,)}, {0: dict(enumerate(right))}, {0: "333"[:len(right)]}]
    for at in range(song.letters):
        for worth in (-1, True, False, "0", "-", (), (0,), [0], {}, -10 ** 59):
            found.append({0: right[:at] + (worth,) + right[at + 1:]})
    return found + [{last: right, **value} for value in found if isinstance(value, dict) and last not in value]


def wrong_fixed(song):
    """Values of all kinds that are no fixed letters of the song, and not None."""
    last = song.length - 1
    found = [value for value in any_values() if value not in (None, {}, {0: 0})]
    found += [[0], (0,), [(0, 0)], ((0, 0),), {True: 0}, {False: 0}, {-1: 0}, {song.length: 0}, {10 ** 30: 0}, {"0": 0}, {None: 0},
              {(): 0}, {(0,): 0}]
    for letter in (song.letters, -1, True, False, None, "0", "", (), (0,), [0], {}, 10 ** 59, -10 ** 59):
        found.append({0: letter})
    return found + [{last: 0, **value} for value in found if isinstance(value, dict) and last not in value]
