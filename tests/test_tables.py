"""Promises 2 to 5 and the section of echofold/tables.py."""

import itertools
import unittest

from echofold import errors, tables
from echofold.errors import InvalidNumber, InvalidTable, InvalidText, OtherLetters
from echofold.songs import Song
from echofold.tables import Table
from tests.samples import HUGE, SIXTY, ErrorCase, any_values, made_rows, nested, no_integers

U = Table(((None, 0), (0, None)))
C = Table(((0, 1), (2, 0)))
KINDS = (1, 2, 3, 4, 5)


def least_of(prices):
    """The least price, in which None is greater than every integer."""
    return sorted(prices, key=lambda price: (price is None, price or 0))[0]


def sum_of(one, other):
    return None if None in (one, other) else one + other


def composed(first, second):
    many = range(len(first))
    return tuple(tuple(least_of([sum_of(first[a][c], second[c][b]) for c in many]) for b in many) for a in many)


def by_pairs(function, one, other):
    return tuple(tuple(map(function, row, beside)) for row, beside in zip(one, other))


def frozen(rows):
    return tuple(tuple(row) for row in rows)


def small_tables():
    """All tables of two letters with the prices None, 0 and 2."""
    return [((a, b), (c, d)) for a, b, c, d in itertools.product((None, 0, 2), repeat=4)]


class TestInterface(unittest.TestCase):
    def test_everything_is_defined_in_its_place(self):
        self.assertEqual(Table.__module__, "echofold.tables")
        self.assertIs(tables.Table, Table)
        for name in ("rows", "letters", "text", "likeness", "silence", "pairs", "price", "again", "read", "__init__",
                     "__mul__", "__add__", "__or__", "__neg__", "__eq__", "MOST_LETTERS", "MOST_TIMES"):
            self.assertIn(name, vars(Table))

    def test_class_values(self):
        for holder in (Table, U):
            self.assertEqual((holder.MOST_LETTERS, holder.MOST_TIMES), (5, 10 ** 30))


class TestRows(ErrorCase):
    def test_rows_and_letters(self):
        for letters in KINDS:
            for seed in range(8):
                rows = made_rows(letters, seed)
                self.assertEqual(Table(rows).rows, frozen(rows))
                self.assertEqual(Table(rows).letters, letters)
                self.assertIs(type(Table(rows).letters), int)

    def test_lists_and_tuples_are_taken_alike_by_position_and_by_name(self):
        want = ((None, 3), (0, 1))
        for rows in (((None, 3), (0, 1)), [[None, 3], [0, 1]], ([None, 3], (0, 1)), [(None, 3), [0, 1]]):
            for table in (Table(rows), Table(rows=rows)):
                self.assertEqual(table.rows, want)
                self.assertIs(type(table.rows), tuple)
                self.assertEqual([type(row) for row in table.rows], [tuple, tuple])

    def test_prices_of_any_size(self):
        for price in (None, 0, 1, SIXTY, 10 ** 60, HUGE):
            self.assertEqual(Table([[price]]).rows, ((price,),))

    def test_no_argument_is_changed_and_later_changes_do_not_count(self):
        rows = [[0, 1], [2, None]]
        table = Table(rows)
        self.assertEqual(rows, [[0, 1], [2, None]])
        rows[0][0] = 9
        rows[1] = [7, 7]
        rows.append([1])
        self.assertEqual(table.rows, ((0, 1), (2, None)))
        self.assertEqual((table.letters, table.text), (2, "0 1 / 2 -"))

    def test_any_other_value_is_refused(self):
        for value in any_values():
            if value == ([0],):
                continue
            with self.subTest(value=value):
                self.refuses(InvalidTable, "value", value, Table, value)
                self.refuses(InvalidTable, "value", value, Table, rows=value)

    def test_wrong_sizes_are_refused(self):
        sizes = [(0, 0), (0, 1), (1, 0), (1, 2), (2, 1), (2, 3), (3, 2), (4, 5), (5, 4), (5, 6), (6, 5), (6, 6), (7, 7)]
        for many, wide in sizes:
            for make in (list, tuple):
                rows = make(make([0] * wide) for _ in range(many))
                self.refuses(InvalidTable, "value", rows, Table, rows)

    def test_one_row_of_another_size_or_kind_is_refused(self):
        for letters in KINDS:
            for at in range(letters):
                good = [0] * letters
                for bad in ([0] * (letters + 1), [0] * (letters - 1), 0, None, "0" * letters, {0: 0}, {a: 0 for a in good},
                            [good] * letters, range(letters), True):
                    rows = [list(good) for _ in range(letters)]
                    rows[at] = bad
                    self.refuses(InvalidTable, "value", rows, Table, rows)

    def test_one_wrong_price_is_refused(self):
        for bad in (True, False, -1, -SIXTY, "0", "-", "", [], [0], (), (0,), {}, {0: 0}, nested(6, 0)):
            for letters in KINDS:
                for at in range(letters * letters):
                    rows = [[0] * letters for _ in range(letters)]
                    rows[at // letters][at % letters] = bad
                    self.refuses(InvalidTable, "value", rows, Table, rows)

    def test_huge_prices_beside_a_wrong_one(self):
        for rows in ([[HUGE, -1], [0, 0]], [[0, HUGE]], [[-HUGE]]):
            self.refuses(InvalidTable, "value", rows, Table, rows)


class TestMade(ErrorCase):
    def test_likeness(self):
        for k in KINDS:
            want = tuple(tuple(0 if a == b else None for b in range(k)) for a in range(k))
            self.assertEqual(Table.likeness(k).rows, want)
            self.assertEqual(Table.likeness(letters=k).rows, want)

    def test_silence(self):
        for k in KINDS:
            self.assertEqual(Table.silence(k).rows, ((0,) * k,) * k)
            self.assertEqual(Table.silence(letters=k).rows, ((0,) * k,) * k)

    def test_pairs(self):
        self.assertEqual(Table.pairs(2, (0, 1)).rows, ((None, 0), (None, None)))
        self.assertEqual(Table.pairs(3, (2, 0), (1, 1), (2, 0)).rows, ((None,) * 3, (None, 0, None), (0, None, None)))
        for k in KINDS:
            every = list(itertools.product(range(k), repeat=2))
            self.assertEqual(Table.pairs(k, *every), Table.silence(k))
            self.assertEqual(Table.pairs(letters=k).rows, ((None,) * k,) * k)
            for pair in every:
                want = tuple(tuple(0 if (a, b) == pair else None for b in range(k)) for a in range(k))
                self.assertEqual(Table.pairs(k, pair).rows, want)

    def test_wrong_numbers_of_letters(self):
        for value in no_integers(1, 5):
            for call in (Table.likeness, Table.silence, Table.pairs):
                self.refuses(InvalidNumber, "value", value, call, value)
                self.refuses(InvalidNumber, "value", value, call, letters=value)
            self.refuses(InvalidNumber, "value", value, Table.pairs, value, (0, 0))
            self.refuses(InvalidNumber, "value", value, Table.pairs, value, None, (9, 9))

    def test_the_example_of_a_wrong_pair(self):
        self.assertEqual(self.caught(InvalidNumber, Table.pairs, 2, (0, 1), (0, 2)).value, (0, 2))

    def test_wrong_pairs(self):
        good = [(0, 0), (0, 1), (1, 0), (1, 1)]
        bad = [value for value in any_values() if value not in good]
        bad = bad + [[0, 1], (0, 2), (2, 0), (-1, 0), (0, -1), (True, 0), (0, False), (0, None), ("0", 1), (0, 1, 1), (0,),
                     (0, [1]), ((0, 1), 1), {0: 1}, (0, 10 ** 59)]
        for value in bad:
            with self.subTest(value=value):
                self.refuses(InvalidNumber, "value", value, Table.pairs, 2, value)
                self.refuses(InvalidNumber, "value", value, Table.pairs, 2, (0, 1), value, [9, 9])

    def test_letters_of_a_pair_depend_on_the_table(self):
        for k in KINDS:
            for pair in ((k, 0), (0, k), (k, k), (0, -1), (-1, 0)):
                self.refuses(InvalidNumber, "value", pair, Table.pairs, k, (k - 1, 0), pair)


class TestOperators(ErrorCase):
    def test_the_examples(self):
        self.assertEqual((C * C).rows, ((0, 1), (2, 0)))
        self.assertEqual([(-C).rows, (U | C).rows, (U + C).rows],
                         [((0, 2), (1, 0)), ((0, 0), (0, 0)), ((None, 1), (2, None))])

    def check(self, one, other):
        first, second = Table(one), Table(other)
        self.assertEqual((first * second).rows, composed(one, other))
        self.assertEqual((first + second).rows, by_pairs(sum_of, one, other))
        self.assertEqual((first | second).rows, by_pairs(lambda p, q: least_of([p, q]), one, other))
        self.assertEqual((-first).rows, tuple(zip(*one)))
        self.assertEqual((first.rows, second.rows), (frozen(one), frozen(other)))

    def test_all_small_tables(self):
        for one, other in itertools.product(small_tables(), repeat=2):
            self.check(one, other)

    def test_tables_of_each_size(self):
        for letters in KINDS:
            for one, other in itertools.product(range(8), repeat=2):
                self.check(made_rows(letters, one), made_rows(letters, other))

    def test_great_prices(self):
        self.check([[SIXTY, 0], [None, 1]], [[SIXTY, SIXTY], [SIXTY - 1, None]])
        self.check([[HUGE, HUGE + 1], [None, 1]], [[HUGE, 5], [HUGE - 1, None]])

    def test_results_are_tables(self):
        for table in (U * C, U + C, U | C, -U):
            self.assertIs(type(table), Table)

    def test_the_order_of_composing_counts(self):
        one, other = Table.pairs(3, (0, 1)), Table.pairs(3, (1, 2))
        self.assertEqual(one * other, Table.pairs(3, (0, 2)))
        self.assertEqual(other * one, Table.pairs(3))

    def test_other_letters(self):
        calls = (lambda one, other: one * other, lambda one, other: one + other, lambda one, other: one | other)
        for one, other in itertools.permutations(KINDS, 2):
            for call in calls:
                error = self.caught(OtherLetters, call, Table.silence(one), Table.silence(other))
                self.assertEqual(vars(error), {})


class TestEquality(unittest.TestCase):
    def test_tables_are_equal_if_their_rows_are(self):
        for one, other in itertools.product(small_tables(), repeat=2):
            self.assertIs(Table(one) == Table(other), one == other)
            self.assertIs(Table(one) != Table(other), one != other)

    def test_tables_of_different_sizes(self):
        for one, other in itertools.permutations(KINDS, 2):
            self.assertIs(Table.silence(one) == Table.silence(other), False)
            self.assertIs(Table.silence(one) != Table.silence(other), True)

    def test_values_of_every_other_kind(self):
        rest = [U.rows, [list(row) for row in U.rows], U.text, Song(2, 4), Song(2, 4, (1, U)), errors.OtherLetters(), Table]
        for value in any_values() + rest:
            self.assertIs(U == value, False)
            self.assertIs(value == U, False)
            self.assertIs(U != value, True)
            self.assertIs(value != U, True)

    def test_equality_within_lists(self):
        self.assertIn(Table(U.rows), [C, U])
        self.assertNotIn(U, [C, None, 0, U.rows])


class TestPrice(ErrorCase):
    def test_price(self):
        for letters in KINDS:
            rows = made_rows(letters, letters)
            for a, b in itertools.product(range(letters), repeat=2):
                self.assertEqual(Table(rows).price(a, b), rows[a][b])
                self.assertEqual(Table(rows).price(second=b, first=a), rows[a][b])

    def test_wrong_letters(self):
        for letters in KINDS:
            table = Table.silence(letters)
            for value in no_integers(0, letters - 1) + [-letters]:
                self.refuses(InvalidNumber, "value", value, table.price, value, 0)
                self.refuses(InvalidNumber, "value", value, table.price, letters - 1, value)
                self.refuses(InvalidNumber, "value", value, table.price, second=value, first=0)
            self.assertEqual(table, Table.silence(letters))

    def test_the_first_wrong_letter_counts(self):
        values = no_integers(0, 1)
        for first, second in zip(values, reversed(values)):
            self.refuses(InvalidNumber, "value", first, C.price, first, second)
            self.refuses(InvalidNumber, "value", first, C.price, second=second, first=first)


class TestAgain(ErrorCase):
    def test_few_times(self):
        for letters in KINDS:
            for seed in range(8):
                table = Table(made_rows(letters, seed))
                want = Table.likeness(letters)
                for times in range(20):
                    self.assertEqual(table.again(times), want)
                    self.assertEqual(table.again(times=times), want)
                    want = want * table
                self.assertEqual(table.rows, frozen(made_rows(letters, seed)))

    def test_the_example(self):
        self.assertEqual(U.again(10 ** 30).text, "0 - / - 0")
        self.assertEqual(U.again(10 ** 30 - 1), U)

    def test_no_times_is_the_likeness(self):
        for letters in KINDS:
            self.assertEqual(Table([[None] * letters] * letters).again(0), Table.likeness(letters))

    def test_many_times(self):
        self.assertEqual(Table([[7]]).again(10 ** 30).rows, ((7 * 10 ** 30,),))
        self.assertEqual(Table([[SIXTY]]).again(10 ** 30 - 1).rows, ((SIXTY * (10 ** 30 - 1),),))
        ring = Table.pairs(5, (0, 1), (1, 2), (2, 3), (3, 4), (4, 0))
        for times in (10 ** 30, 10 ** 30 - 1, 2 ** 99, 3 ** 60, 123456789):
            self.assertEqual(ring.again(times), Table.pairs(5, *[(a, (a + times) % 5) for a in range(5)]))

    def test_many_times_are_parts_put_together(self):
        for seed in range(6):
            table = Table(made_rows(4, seed))
            for part in (1, 2 ** 64, 3 ** 50, 10 ** 29):
                self.assertEqual(table.again(10 ** 30), table.again(part) * table.again(10 ** 30 - part))

    def test_wrong_times(self):
        for table in (U, Table([[None]]), Table.silence(5)):
            rows = table.rows
            for value in no_integers(0, 10 ** 30):
                self.refuses(InvalidNumber, "value", value, table.again, value)
                self.refuses(InvalidNumber, "value", value, table.again, times=value)
            self.assertEqual(table.rows, rows)


class TestText(ErrorCase):
    def test_text(self):
        self.assertEqual([U.text, C.text, Table([[None]]).text], ["- 0 / 0 -", "0 1 / 2 0", "-"])
        self.assertEqual(Table([[0, 10, 200], [None, 7, 100], [1, 2, 3]]).text, "0 10 200 / - 7 100 / 1 2 3")
        for price in (SIXTY, 10 ** 60, 10 ** 4000 - 1):
            self.assertEqual(Table([[price]]).text, str(price))
        self.assertEqual(Table.silence(5).text, " / ".join(["0 0 0 0 0"] * 5))

    def test_the_example_of_read(self):
        self.assertEqual(Table.read("3 - / 0 1").rows, ((3, None), (0, 1)))
        self.assertEqual(Table.read(text="3 - / 0 1").rows, ((3, None), (0, 1)))

    def test_what_is_written_is_read(self):
        for letters in KINDS:
            for seed in range(8):
                table = Table(made_rows(letters, seed))
                self.assertEqual(Table.read(table.text), table)
        for rows in small_tables() + [((SIXTY, 10 ** 59), (None, 0))]:
            self.assertEqual(Table.read(Table(rows).text).rows, rows)

    def test_values_of_every_other_kind(self):
        for value in any_values():
            if value not in ("0", "1", "-", "- 0 / 0 -"):
                self.refuses_number(InvalidText, "line", 0, Table.read, value)
                self.refuses_number(InvalidText, "line", 0, Table.read, text=value)

    def test_tables_are_no_texts(self):
        for value in (U, U.rows, [U.text], (U.text,)):
            self.refuses_number(InvalidText, "line", 0, Table.read, value)

    def test_long_prices(self):
        for digits in (61, 62, 4300, 4301, 5000, 10 ** 5):
            for mark in "19":
                for text in (mark * digits, f"0 - / {mark * digits} 0", f"- {mark * digits} / 0 0"):
                    self.refuses_number(InvalidText, "line", 0, Table.read, text)
        self.refuses_number(InvalidText, "line", 0, Table.read, "0" * 61)
        self.refuses_number(InvalidText, "line", 0, Table.read, "0" * 60)

    def test_wrong_texts(self):
        texts = ["", " ", "/", " / ", "0 ", " 0", "0  ", "0\n", "\n0", "00", "01", "-0", "-1", "+1", "--", "- -", "0 0", "None",
                 "0 /", "/ 0", "0 / 0", "0 0 / 0", "0 / 0 0", "0 0 / 0 0 / 0 0", "0 0 / 0 0 0", "0 0 0 / 0 0", "0 0/0 0",
                 "0 0 /0 0", "0 0/ 0 0", "0  0 / 0 0", "0 0  / 0 0", "0 0 /  0 0", "0 0 / 0  0", "0 0 / 0 0 ", " 0 0 / 0 0",
                 "0 0 / 0 0 /", "0 0 / 0 0 / ", "/ 0 0 / 0 0", "0 0 // 0 0", "0 0 / / 0 0", "0 0 \\ 0 0", "0 0\n0 0",
                 "0 0 /\n0 0", "0 0 / 0 0\n", "0 a / 0 0", "0 1_0 / 0 0", "0 1.0 / 0 0", "0 0x1 / 0 0", "0 007 / 0 0",
                 "0 - / 0 00", "0, 0 / 0, 0", "0 None / 0 0", "0 True / 0 0", "0 -1 / 0 0", "0 +1 / 0 0", "((0,),)", "[[0]]",
                 "0;0 / 0;0", "0 ~ / 0 0", " / ".join(["0 0 0 0 0 0"] * 6), " / ".join(["0 0 0 0 0 0"] * 5),
                 " / ".join(["0 0 0 0 0"] * 6), "0 " * 1000, "0 / " * 1000]
        for text in texts:
            with self.subTest(text=text):
                self.refuses_number(InvalidText, "line", 0, Table.read, text)

    def test_each_other_character_is_refused(self):
        for mark in [chr(code) for code in range(32, 127)] + ["\n"]:
            if not mark.isdigit():
                for text in (f"1{mark}", f"{mark}1", f"1{mark}1", f"0 {mark}5 / 0 0", f"0 0 / 0 5{mark}"):
                    self.refuses_number(InvalidText, "line", 0, Table.read, text)

    def test_one_character_too_many_or_too_few(self):
        text = "- 10 3 / 0 2 - / 44 5 6"
        for at in range(len(text) + 1):
            for mark in (" ", "/", "-", "0", "5", "a", "\n", "."):
                self.check_reading(text[:at] + mark + text[at:])
                self.check_reading(text[:at] + mark + text[at + 1:])
            self.check_reading(text[:at] + text[at + 1:])

    def check_reading(self, text):
        """A text is read if and only if some table has it."""
        rows = [part.split(" ") for part in text.split(" / ")]
        good = all(len(row) == len(rows) for row in rows) and all(
            word == "-" or (word.isdigit() and str(int(word)) == word) for row in rows for word in row)
        if good:
            self.assertEqual(Table.read(text).text, text)
        else:
            self.refuses_number(InvalidText, "line", 0, Table.read, text)


if __name__ == "__main__":
    unittest.main()
