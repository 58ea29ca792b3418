"""What several tests share: values of every kind, tables to try, and a check of errors."""

import copy
import unittest

HUGE = 10 ** 5000
SIXTY = 10 ** 60 - 1


def nested(depth, leaf):
    """A value that is nested so deep, by lists, tuples and dicts in turn."""
    value = leaf
    for level in range(depth):
        value = ([value], (value,), {level: value})[level % 3]
    return value


def any_values():
    """Values of all the kinds that the document calls any value, new ones for each call."""
    numbers = [-SIXTY, -10 ** 30, -6, -2, -1, 0, 1, 2, 3, 4, 5, 6, 7, 40, 41, 10 ** 30 - 1, 10 ** 30, 10 ** 30 + 1, SIXTY]
    words = ["", " ", "0", "1", "-", "a", "None", "- 0 / 0 -", "song 2 4", "\n", "0 0\n0 0", "~" * 70]
    tuples = [(), (0,), (1,), (None,), (True,), (0, 0), (0, 1), (2, 3), (0, 1, 0), ("0", "1"), ((),), ([0],), ({},), (0, (1,))]
    lists = [[], [0], [None], [True], [0, 1], [0, 1, 0], ["0"], [[]], [()], [{}], [0, [1]], [None] * 6]
    dicts = [{}, {0: 0}, {0: (0,)}, {"0": 1}, {None: None}, {(0, 1): [2]}]
    deep = [nested(8, 0), nested(7, None), nested(8, "a"), nested(6, ())]
    return [None, True, False] + numbers + words + tuples + lists + dicts + deep


def is_integer(value, low, high):
    return type(value) is int and low <= value <= high


def no_integers(low, high):
    """Values of all kinds that are no integers from low to high."""
    return [value for value in any_values() + [low - 1, high + 1] if not is_integer(value, low, high)]


def made_rows(letters, seed):
    """Rows of a table that look different for each seed; some prices are None."""
    return [[None if (a * 7 + b * 5 + seed * 3) % 4 == 0 else (a * a * 31 + b * 17 + seed * 13) % 23
             for b in range(letters)] for a in range(letters)]


class ErrorCase(unittest.TestCase):
    """Tests with a check of which error a call raises, with which field, and that it changes nothing."""

    def caught(self, error, call, *values, **named):
        before = copy.deepcopy((values, named))
        with self.assertRaises(error) as context:
            call(*values, **named)
        self.assertIs(type(context.exception), error)
        self.assertEqual((values, named), before)
        return context.exception

    def refuses(self, error, field, value, call, *values, **named):
        """The field has to be the very object."""
        self.assertIs(getattr(self.caught(error, call, *values, **named), field), value)

    def refuses_number(self, error, field, value, call, *values, **named):
        """The field has to be this integer, which the program computes."""
        found = getattr(self.caught(error, call, *values, **named), field)
        self.assertIs(type(found), int)
        self.assertEqual(found, value)
