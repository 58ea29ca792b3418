"""Promises 2, 3, 6, 8 and 12 and the section of echofold/console.py."""

import random
import unittest

from echofold import console as module
from echofold.console import Console
from echofold.errors import (InvalidEcho, InvalidLine, InvalidNumber, InvalidPlace, InvalidWishes, NoEcho, NoRow, NothingToRedo,
                             NothingToUndo, TooFar, TooLong)
from echofold.songs import Song
from echofold.tables import Table
from tests.copies import Copies, Wrong, rows_left, song_of
from tests.reference import (ORDERS, fixed_as_wishes, great_songs, least_of, least_price_of, made_song, made_wishes, price_of,
                             row_count_of, small_songs)
from tests.samples import HUGE, SIXTY, CallCase, any_values

FAR = 10 ** 30
U = Table(((None, 0), (0, None)))
C = Table(((0, 1), (2, 0)))
LINES = ["song 2 4", "echo 2 - 0 / 0 -", "drop 0", "length 3", "wish 0 1 -", "free 0", "undo", "redo", "lightest", "count", "row 0", "shapes", "text"]
WORDS = [line.split(" ")[0] for line in LINES]


def told(song, wishes=None):
    """A new console that has been told this song and these wishes."""
    console = Console()
    lines = [f"song {song.letters} {song.length}"] + [f"echo {delay} {table.text}" for delay, table in song.echoes]
    lines += [f"wish {place} " + prices_text(prices) for place, prices in (wishes or {}).items()]
    for line in lines:
        assert console.run(line) == "ok", line
    return console


def prices_text(prices):
    return " ".join("-" if price is None else str(price) for price in prices)


def digits(row):
    return "".join(map(str, row))


def short_wishes(song, seed):
    """Wishes of which no price has more than sixty digits."""
    return {place: tuple(price if price is None else price % SIXTY for price in prices)
            for place, prices in (made_wishes(song, seed) or {}).items()}


def lightest_by_rows(song, wishes, rows):
    """The answer to lightest: the first of the rows, which are ascending, with the least price."""
    prices = [price_of(song, row, wishes) for row in rows]
    least = least_of(prices)
    return "none" if least is None else f"{least} {digits(rows[prices.index(least)])}"


class ConsoleCase(CallCase):
    def tells(self, console, line, want):
        found = console.run(line)
        self.assertEqual(found, want)
        self.assertIs(type(found), str)

    def says_all(self, console, song, wishes=None):
        """Every question, held against going through all rows."""
        rows = rows_left(song, wishes or {})
        self.tells(console, "text", song.text)
        self.tells(console, "count", str(len(rows)))
        self.tells(console, "lightest", lightest_by_rows(song, wishes, rows))
        for number in {0, len(rows) // 3, len(rows) // 2, len(rows) - 1} & set(range(len(rows))):
            self.tells(console, f"row {number}", digits(rows[number]))
        for number in (len(rows), len(rows) + 1, SIXTY):
            self.refuses_number(NoRow, "number", number, console.run, f"row {number}")

    def unchanged(self, console):
        """What a console tells, and what it tells when it is taken back and done again."""
        found = [console.run(line) for line in ("text", "count", "lightest", "shapes")]
        steps = []
        for line in ("undo", "redo"):
            try:
                steps.append(console.run(line))
                steps += [console.run("text"), console.run("lightest"), console.run({"undo": "redo", "redo": "undo"}[line])]
            except (NothingToUndo, NothingToRedo) as error:
                steps.append(type(error).__name__)
        return found, steps


class TestInterface(ConsoleCase):
    def test_everything_is_defined_in_its_place(self):
        self.assertEqual(module.Console.__module__, "echofold.console")
        self.assertIn("run", vars(Console))

    def test_a_console_is_equal_to_nothing_else(self):
        console = Console()
        for value in any_values() + [Console, Console()]:
            self.assertIs(console == value, False)
            self.assertIs(value == console, False)
            self.assertIs(console != value, True)
        self.assertIs(console == console, True)

    def test_the_line_by_name(self):
        self.assertEqual(Console().run(line="text"), "song 2 1")


class TestLines(ConsoleCase):
    def test_the_examples(self):
        console = Console()
        lines = ["song 2 4", "echo 2 - 0 / 0 -", "count", "row 3", "shapes"]
        self.assertEqual([console.run(line) for line in lines], ["ok", "ok", "4", "1100", "line 2 1 0 2"])
        self.assertEqual(self.caught(InvalidPlace, console.run, "wish 9 0 0").value, 9)

    def test_a_new_console(self):
        console = Console()
        self.says_all(console, Song(2, 1))
        self.tells(console, "shapes", "line 1 0 0 1")
        self.caught(NothingToUndo, console.run, "undo")
        self.caught(NothingToRedo, console.run, "redo")

    def test_each_line(self):
        console = Console()
        steps = [("song 3 5", "ok"), ("text", "song 3 5"), ("echo 2 0 1 2 / 3 - 5 / 6 7 8", "ok"), ("text", "song 3 5\necho 2 0 1 2 / 3 - 5 / 6 7 8"),
                 ("shapes", "line 2 1 0 1; line 3 2 0 1"), ("lightest", "0 00000"), ("wish 0 - 5 4", "ok"), ("lightest", "8 10000"), ("undo", "ok"),
                 ("lightest", "0 00000"), ("redo", "ok"), ("lightest", "8 10000"), ("wish 0 - - -", "ok"), ("lightest", "none"), ("count", "0"),
                 ("free 0", "ok"), ("lightest", "0 00000"), ("length 2", "ok"), ("count", "9"), ("row 5", "12"), ("echo 1 0 - - / - 0 - / - - 0", "ok"),
                 ("count", "3"), ("row 2", "22"), ("drop 0", "ok"), ("text", "song 3 2\necho 1 0 - - / - 0 - / - - 0"), ("undo", "ok"),
                 ("text", "song 3 2\necho 2 0 1 2 / 3 - 5 / 6 7 8\necho 1 0 - - / - 0 - / - - 0"), ("length 3", "ok"), ("shapes", "ring 3 1 2 1")]
        for line, want in steps:
            self.tells(console, line, want)

    def test_a_new_song_is_a_new_book(self):
        console = Console()
        for line in ("song 2 4", "echo 2 - 0 / 0 -", "wish 0 1 2", "undo", "song 2 4"):
            self.tells(console, line, "ok")
        self.says_all(console, Song(2, 4))
        self.caught(NothingToUndo, console.run, "undo")
        self.caught(NothingToRedo, console.run, "redo")

    def test_answers_against_all_rows(self):
        for seed, song in enumerate(small_songs(70)[::2]):
            wishes = short_wishes(song, seed)
            self.says_all(told(song, wishes), song, wishes)

    def test_the_least_of_several_lightest_rows(self):
        for song, wishes, want in ((Song(2, 4, (2, U)), {}, "0 0011"), (Song(2, 4, (2, U)), {1: (1, 0)}, "0 0110"), (Song(2, 4, (2, U), (3, U)), {0: (3, 3)}, "3 0011"),
                                   (Song(3, 3, (1, Table([[None, 1, 1], [1, None, 1], [1, 1, None]]))), {}, "2 010"), (Song(5, 40), {39: (4, 3, 2, 1, 0)}, "0 " + "0" * 39 + "4"),
                                   (Song(2, 4, (3, C), (1, U)), {0: (1, 1)}, "2 0101")):
            self.tells(told(song, wishes), "lightest", want)

    def test_lightest_rows_of_forty_places(self):
        for seed, song in enumerate(great_songs(3)[::5] + great_songs(5)[7::9]):
            wishes, order = short_wishes(song, seed), ORDERS[seed % 3]
            least = least_price_of(song, wishes, order)
            found = told(song, wishes).run("lightest")
            if least is None:
                self.assertEqual(found, "none")
                continue
            price, row = found.split(" ")
            row = [int(letter) for letter in row]
            self.assertEqual([int(price), price_of(song, row, wishes), len(row)], [least, least, 40])
            # No row with a lesser letter somewhere, and the same ones before, is as cheap.
            for place in range(0, 40, 3):
                zero = (0,) * song.letters
                begin = {at: tuple(p if a == row[at] else None for a, p in enumerate(wishes.get(at, zero))) for at in range(place)}
                lesser = tuple(p if a < row[place] else None for a, p in enumerate(wishes.get(place, zero)))
                other = least_price_of(song, {**wishes, **begin, place: lesser}, order)
                self.assertTrue(other is None or other > least)

    def test_counts_and_rows_of_forty_places(self):
        for seed, song in enumerate(great_songs(4)[::6]):
            wishes = {place: tuple(None if (place + a + seed) % 3 == 0 else a for a in range(4)) for place in range(seed, 40, 5)}
            console = told(song, wishes)
            many = row_count_of(song, ORDERS[0], {place: tuple(None if p is None else 0 for p in prices) for place, prices in wishes.items()})
            self.tells(console, "count", str(many))
            if many > 0:
                row = tuple(map(int, console.run(f"row {many - 1}")))
                self.assertIsNot(price_of(song, row, wishes), None)
                self.assertEqual(row_count_of(song, ORDERS[1], fixed_as_wishes(song, dict(enumerate(row)))), 1)
            self.refuses_number(NoRow, "number", many, console.run, f"row {many}")

    def test_prices_of_sixty_digits(self):
        console = told(Song(2, 2))
        self.tells(console, f"wish 0 {SIXTY} -", "ok")
        self.tells(console, f"wish 1 {SIXTY} {SIXTY}", "ok")
        self.tells(console, f"echo 1 {SIXTY} 1 / - -", "ok")
        self.tells(console, "lightest", f"{2 * SIXTY + 1} 01")
        self.tells(console, "text", f"song 2 2\necho 1 {SIXTY} 1 / - -")

    def test_the_greatest_song(self):
        console = told(Song(5, 40))
        self.tells(console, "count", str(5 ** 40))
        self.tells(console, f"row {5 ** 40 - 1}", "4" * 40)
        self.tells(console, "shapes", "line 1 0 0 40")
        self.refuses_number(NoRow, "number", 5 ** 40, console.run, f"row {5 ** 40}")


class TestInvalidLines(ConsoleCase):
    def check(self, lines, console=None):
        console = console or told(Song(2, 3, (1, U)), {0: (1, 2)})
        before = self.unchanged(console)
        for line in lines:
            self.refuses(InvalidLine, "value", line, console.run, line)
            self.refuses(InvalidLine, "value", line, console.run, line=line)
        self.assertEqual(self.unchanged(console), before)

    def test_values_of_all_kinds(self):
        self.check([value for value in any_values() if value != "song 2 4"] + [[line] for line in LINES] + [tuple(LINES), HUGE, Song(2, 1), Console, U])

    def test_empty_words(self):
        lines = []
        for line in LINES:
            lines += [" " + line, line + " ", line.replace(" ", "  ", 1) + (" " if " " not in line else ""), line + "  ", "  " + line]
        self.check(lines + ["", " ", "  ", "wish 0  1 2", "wish 0 1  2", "echo 1 0 0  / 0 0", "echo 1 0 0 /  0 0"])

    def test_words_more_less_and_otherwise(self):
        lines = []
        for line in LINES:
            word = line.split(" ")[0]
            lines += [line.upper(), line.title(), word[:-1], word + "s", line[1:], "\n" + line, line + "\n", line.replace(word, word + ";"), line + " a", line + " /"]
            if word != "wish":
                lines += [line + " 0", line + " 0 0"]
            if " " in line and word not in ("wish", "echo"):
                lines += [line.rsplit(" ", 1)[0], line.replace(" ", "\n"), line.replace(" ", "  ")]
        self.check(lines + ["wish", "wish 0", "echo", "echo 2", "song", "song 2", "drop", "length", "free", "row", "quit", "book", "0", "-", "/"])

    def test_numbers(self):
        wrong = ["00", "01", "007", "-1", "+1", "1.0", "1e3", "0x1", "1_000", "a", "-", "None", "1" + "0" * 60, "9" * 61, "9" * 5000, "0" * 60, "1,", "True", "1\n", "/"]
        for line in ("song {} 4", "song 2 {}", "drop {}", "length {}", "free {}", "row {}", "wish {} 0 0", "echo {} 0 0 / 0 0"):
            self.check([line.format(number) for number in wrong])

    def test_prices(self):
        wrong = ["00", "01", "-1", "+1", "--", "1.0", "a", "None", "1" + "0" * 60, "9" * 61, "9" * 5000, "-0", "/", "1\n"]
        for line in ("wish 0 {} 0", "wish 0 0 {}", "wish 0 {}", "wish 9 {}", "echo 2 {} 0 / 0 0", "echo 2 0 0 / 0 {}"):
            self.check([line.format(price) for price in wrong])

    def test_tables_that_are_not_read(self):
        wrong = ["0 0", "0 0 / 0", "0 0 / 0 0 / 0 0", "/ 0 0", "0 0 /", "0 0 0 0", "0 0/0 0", "0 0 / 0 0 /", "/", "- /", "0 0 // 0 0", "0 0\n0 0", "0 / 0 0",
                 " / ".join(["0 0 0 0 0 0"] * 6)]
        self.check([f"echo {delay} {text}" for text in wrong for delay in (2, 0, 10 ** 40)])


class TestErrors(ConsoleCase):
    def refused(self, console, line, error, field, value):
        before = self.unchanged(console)
        found = getattr(self.caught(error, console.run, line), field) if field else self.caught(error, console.run, line) and value
        self.assertEqual((found, type(found)), (value, type(value)))
        self.assertEqual(self.unchanged(console), before)

    def test_songs(self):
        console = told(Song(2, 3, (1, U)), {0: (1, 2)})
        for letters in (0, 6, 7, SIXTY):
            for length in (0, 4, 41, FAR + 1):
                self.refused(console, f"song {letters} {length}", InvalidNumber, "value", letters)
        for length in (0, FAR + 1, SIXTY):
            self.refused(console, f"song 2 {length}", InvalidNumber, "value", length)
        for length in (41, 100, FAR):
            self.refused(console, f"song 2 {length}", TooFar, "limit", 40)

    def test_deeds(self):
        console = told(Song(2, 3, (1, U)), {0: (1, 2)})
        for place in (3, 4, SIXTY):
            self.refused(console, f"free {place}", InvalidPlace, "value", place)
            self.refused(console, f"wish {place} 0 0", InvalidPlace, "value", place)
            self.refused(console, f"wish {place} 0 0 0", InvalidPlace, "value", place)
        for prices in ((0,), (None,), (0, 0, 0), (1, None, 2, 3), (SIXTY,), (0,) * 50):
            self.refused(console, "wish 2 " + prices_text(prices), InvalidWishes, "value", prices)
        for length in (0, FAR + 1, SIXTY):
            self.refused(console, f"length {length}", InvalidNumber, "value", length)
        for length in (41, FAR):
            self.refused(console, f"length {length}", TooFar, "limit", 40)
        for delay, table in ((0, U), (FAR + 1, U), (SIXTY, U), (2, Table([[0]])), (2, Table.silence(3)), (0, Table([[None]]))):
            self.refused(console, f"echo {delay} {table.text}", InvalidEcho, "value", (delay, table))
        for index in (1, 2, SIXTY):
            self.refused(console, f"drop {index}", NoEcho, "index", index)
        self.refused(console, "echo 1 0 0 / 0 0", TooLong, "limit", 2)
        self.tells(console, "echo 3 0 0 / 0 0", "ok")
        self.refused(console, "echo 9 0 0 / 0 0", InvalidEcho, "value", (9, Table.silence(2)))
        self.refused(console, "length 5", TooLong, "limit", 4)
        self.refused(console, "drop 2", NoEcho, "index", 2)

    def test_rows_and_both_ends(self):
        console = told(Song(2, 3, (1, U)))
        for number in (2, 3, SIXTY):
            self.refused(console, f"row {number}", NoRow, "number", number)
        self.refused(console, "redo", NothingToRedo, None, None)
        console.run("undo")
        self.refused(console, "undo", NothingToUndo, None, None)

    def test_what_was_taken_back_stays_behind_a_refused_line(self):
        console = told(Song(2, 3))
        for line in ("wish 0 1 2", "length 2", "undo", "undo"):
            console.run(line)
        for line in ("length 41", "drop 0", "wish 0", "song 9 9", "row 99", "wish 0 1", None, "lightest ", "count", "lightest", "row 0", "shapes", "text"):
            try:
                console.run(line)
            except (TooFar, NoEcho, InvalidLine, InvalidNumber, NoRow, InvalidWishes):
                pass
        self.tells(console, "redo", "ok")
        self.tells(console, "redo", "ok")
        self.says_all(console, Song(2, 2), {0: (1, 2)})


class TestHistories(ConsoleCase):
    def made_line(self, maker):
        """A line and the deed that it is, if it is one."""
        word = maker.choice(["wish", "wish", "wish", "free", "length", "echo", "echo", "drop", "undo", "undo", "redo", "redo", "count", "odd"])
        place = maker.choice([0, 0, 1, 2, 3, 4, 9])
        if word == "wish":
            prices = tuple(maker.choice([None, 0, 1, 7, SIXTY]) for _ in range(maker.choice([2, 2, 2, 2, 1, 3])))
            return f"wish {place} {prices_text(prices)}", (word, place, prices)
        if word == "echo":
            table = Table([[maker.choice([None, 0, 1, 3]) for _ in range(2)] for _ in range(2)])
            delay = maker.choice([1, 2, 2, 3, 9, 0, FAR])
            return f"echo {delay} {table.text}", (word, delay, table)
        if word == "length":
            place = maker.choice([0, 1, 2, 3, 4, 5, 41])
        if word in ("free", "length", "drop"):
            return f"{word} {place}", (word, place)
        return (word if word != "odd" else maker.choice(["undo 1", "redo ", "wish 0", "echo 2 0 0", "", "free -1"])), None

    def test_many_lines_against_copies_of_all_states(self):
        for seed in range(40):
            maker = random.Random(seed)
            console, copies = told(Song(2, 1 + seed % 4)), Copies(Song(2, 1 + seed % 4))
            for _ in range(50):
                line, deed = self.made_line(maker)
                try:
                    if deed is not None:
                        copies.do(deed)
                    elif line in ("undo", "redo"):
                        getattr(copies, line)()
                except Wrong as wrong:
                    error, field, value = wrong.args
                    caught = self.caught(error, console.run, line)
                    if field is not None:
                        self.assertEqual(getattr(caught, field), value)
                else:
                    if line in ("undo", "redo") or deed is not None:
                        self.tells(console, line, "ok")
                    elif line != "count":
                        self.refuses(InvalidLine, "value", line, console.run, line)
                self.tells(console, "text", song_of(copies.past[-1]).text)
                if maker.random() < 0.3:
                    self.says_all(console, song_of(copies.past[-1]), copies.past[-1][3])

    def test_two_consoles_have_nothing_in_common(self):
        one, other = told(Song(2, 3)), Console()
        one.run("length 2")
        self.tells(other, "text", "song 2 1")
        self.caught(NothingToUndo, other.run, "undo")


if __name__ == "__main__":
    unittest.main()
