"""Promises 2, 3 and 6 and the section of echofold/songs.py."""

import itertools
import re
import unittest

from echofold import errors, songs
from echofold.errors import InvalidEcho, InvalidNumber, InvalidText, NoEcho, TooLong
from echofold.songs import Song
from echofold.tables import Table
from tests.samples import HUGE, SIXTY, ErrorCase, any_values, made_rows, no_integers

U = Table(((None, 0), (0, None)))
C = Table(((0, 1), (2, 0)))
FAR = 10 ** 30
LENGTHS = (1, 2, 39, 40, 41, FAR - 1, FAR)
KINDS = (1, 2, 3, 4, 5)
NUMBER = "(0|[1-9][0-9]{0,59})"


def wrong_echoes():
    """Values that are no echo of a song of two letters."""
    pairs = [(delay, U) for delay in no_integers(1, FAR)] + [(1, value) for value in any_values()]
    tables = [(1, Table.silence(k)) for k in KINDS if k != 2]
    others = [[1, U], (1,), (U,), (1, U, U), (1, U, 1), (1, 1, U), (U, 1), (U, U), ((1, U),), [(1, U)], {1: U}, ([1], U),
              (1, (U,)), (1, [U]), (1, U.rows), (1, [list(row) for row in U.rows]), (1, U.text), (HUGE, U), U]
    return any_values() + pairs + tables + others


def wrong_line(text):
    """The number of the first wrong line of a text, told by patterns; None if it is the text of a song."""
    head, *rest = text.split("\n")
    found = re.fullmatch(f"song ([1-5]) {NUMBER}", head)
    if not found or not 1 <= int(found[2]) <= FAR:
        return 0
    many, length, delays = int(found[1]), int(found[2]), []
    table = " / ".join([" ".join([f"(?:-|{NUMBER})"] * many)] * many)
    for number, line in enumerate(rest, 1):
        found = re.fullmatch(f"echo {NUMBER} {table}", line)
        if number == 3 or not found or not 1 <= int(found[1]) <= FAR:
            return number
        delays.append(int(found[1]))
        if number == 2 and sum(delays) < length:
            return number
    return None


def parts(song):
    """All that a song tells about itself."""
    return (song.letters, song.length, song.echoes, song.delays, song.is_near, song.text)


class TestInterface(unittest.TestCase):
    def test_everything_is_defined_in_its_place(self):
        self.assertEqual(Song.__module__, "echofold.songs")
        self.assertIs(songs.Song, Song)
        for name in ("letters", "length", "echoes", "delays", "is_near", "text", "with_length", "with_echo", "without_echo",
                     "read", "__init__", "__eq__", "NEAR", "FARTHEST"):
            self.assertIn(name, vars(Song))

    def test_class_values(self):
        for holder in (Song, Song(1, 1)):
            self.assertEqual((holder.NEAR, holder.FARTHEST), (40, FAR))


class TestSong(ErrorCase):
    def test_letters_and_length(self):
        for letters, length in itertools.product(KINDS, LENGTHS):
            for song in (Song(letters, length), Song(letters=letters, length=length), Song(length=length, letters=letters)):
                self.assertEqual((song.letters, song.length, song.echoes), (letters, length, ()))
                self.assertEqual([type(song.letters), type(song.length)], [int, int])

    def test_echoes(self):
        for echoes in ((), ((1, U),), ((FAR, C),), ((2, U), (3, C)), ((3, C), (2, U)), ((4, U), (4, U)), ((FAR, U), (FAR, C))):
            song = Song(2, 4, *echoes)
            self.assertEqual(song.echoes, echoes)
            self.assertIs(type(song.echoes), tuple)
            self.assertEqual([type(echo) for echo in song.echoes], [tuple for _ in echoes])

    def test_echoes_of_each_number_of_letters(self):
        for k in KINDS:
            table = Table(made_rows(k, k))
            self.assertEqual(Song(k, 3, (1, table), (2, -table)).echoes, ((1, table), (2, -table)))

    def test_delays(self):
        self.assertEqual(Song(2, 4).delays, (4, 4))
        self.assertEqual(Song(2, 4, (2, U)).delays, (2, 4))
        self.assertEqual(Song(2, 4, (9, U)).delays, (9, 4))
        self.assertEqual(Song(2, 4, (3, U), (2, U)).delays, (3, 2))
        self.assertEqual(Song(2, FAR, (1, U)).delays, (1, FAR))
        self.assertEqual(Song(1, FAR).delays, (FAR, FAR))
        self.assertIs(type(Song(2, 4, (2, U)).delays), tuple)

    def test_near(self):
        for length in LENGTHS:
            for echoes in ((), ((41, U),), ((1, U), (FAR, C))):
                self.assertIs(Song(2, length, *echoes).is_near, length <= 40)

    def test_length_up_to_the_sum_of_the_delays(self):
        for d, e in ((1, 1), (2, 3), (3, 2), (40, 1), (1, FAR - 1), (FAR // 2, FAR // 2), (FAR - 1, 1)):
            self.assertEqual(Song(2, d + e, (d, U), (e, C)).length, d + e)
            if d + e < FAR:
                self.refuses_number(TooLong, "limit", d + e, Song, 2, d + e + 1, (d, U), (e, C))
                self.refuses_number(TooLong, "limit", d + e, Song, 2, FAR, (d, U), (e, C))
        self.assertEqual(Song(2, FAR, (FAR, U), (FAR, U)).delays, (FAR, FAR))

    def test_one_echo_allows_every_length(self):
        for delay, length in itertools.product((1, 40, 41, FAR), LENGTHS):
            self.assertEqual(Song(2, length, (delay, U)).delays, (delay, length))

    def test_the_example_of_a_long_song(self):
        self.refuses_number(TooLong, "limit", 5, Song, 2, 6, (2, U), (3, U))

    def test_wrong_letters(self):
        for value in no_integers(1, 5):
            self.refuses(InvalidNumber, "value", value, Song, value, 4)
            self.refuses(InvalidNumber, "value", value, Song, letters=value, length=4)
            self.refuses(InvalidNumber, "value", value, Song, value, 4, (2, U))

    def test_wrong_length(self):
        for value in no_integers(1, FAR):
            self.refuses(InvalidNumber, "value", value, Song, 2, value)
            self.refuses(InvalidNumber, "value", value, Song, letters=2, length=value)
            self.refuses(InvalidNumber, "value", value, Song, 2, value, (2, U))

    def test_wrong_echoes(self):
        for value in wrong_echoes():
            with self.subTest(value=value):
                self.refuses(InvalidEcho, "value", value, Song, 2, 4, value)
                self.refuses(InvalidEcho, "value", value, Song, 2, 4, (2, U), value)

    def test_a_table_of_other_letters(self):
        for k, letters in itertools.permutations(KINDS, 2):
            echo = (1, Table.silence(k))
            self.refuses(InvalidEcho, "value", echo, Song, letters, 2, echo)
            self.refuses(InvalidEcho, "value", echo, Song, letters, 2, (1, Table.silence(letters)), echo)

    def test_a_third_echo_is_refused_even_if_it_is_one(self):
        for third in [(1, U), (FAR, C)] + wrong_echoes():
            self.refuses(InvalidEcho, "value", third, Song, 2, 4, (2, U), (2, U), third)
            self.refuses(InvalidEcho, "value", third, Song, 2, 4, (2, U), (2, U), third, None, (1, U))

    def test_the_first_wrong_argument_counts(self):
        letters, length, one, other, third = [0], (0,), [2, U], {2: U}, (3, U)
        self.refuses(InvalidNumber, "value", letters, Song, letters, length, one, other, third)
        self.refuses(InvalidNumber, "value", letters, Song, length=length, letters=letters)
        self.refuses(InvalidNumber, "value", length, Song, 2, length, one, other, third)
        self.refuses(InvalidEcho, "value", one, Song, 2, 4, one, other, third)
        self.refuses(InvalidEcho, "value", other, Song, 2, 4, (2, U), other, third)
        self.refuses(InvalidEcho, "value", third, Song, 2, 4, (2, U), (2, U), third)

    def test_a_long_song_is_told_last(self):
        for wrong in (None, (1, Table.silence(3)), (0, U)):
            self.refuses(InvalidEcho, "value", wrong, Song, 2, 100, (1, U), wrong)
            self.refuses(InvalidEcho, "value", wrong, Song, 2, 100, (1, U), (1, U), wrong)
        length = FAR + 1
        self.refuses(InvalidNumber, "value", length, Song, 2, length, (1, U), (1, U))


class TestEquality(unittest.TestCase):
    def test_songs_are_equal_if_letters_length_and_echoes_are(self):
        def made():
            u, c = Table(U.rows), Table(C.rows)
            return [Song(2, 4), Song(2, 5), Song(3, 4), Song(2, 4, (2, u)), Song(2, 4, (3, u)), Song(2, 4, (2, c)),
                    Song(2, 5, (2, u)), Song(2, 4, (4, u)), Song(2, 4, (2, u), (3, u)), Song(2, 4, (3, u), (2, u)),
                    Song(2, 4, (2, u), (3, c)), Song(2, 4, (2, c), (3, u)), Song(2, 4, (2, u), (4, u)), Song(1, 4)]
        for (a, one), (b, other) in itertools.product(enumerate(made()), enumerate(made())):
            self.assertIs(one == other, a == b)
            self.assertIs(one != other, a != b)

    def test_values_of_every_other_kind(self):
        song = Song(2, 4, (2, U))
        for value in any_values() + [song.text, song.echoes, (2, 4, (2, U)), U, errors.NoEcho(0), Song]:
            self.assertIs(song == value, False)
            self.assertIs(value == song, False)
            self.assertIs(song != value, True)
            self.assertIs(value != song, True)


class TestChanges(ErrorCase):
    def test_with_length(self):
        for echoes in ((), ((2, U),), ((2, U), (FAR, C))):
            song = Song(2, 4, *echoes)
            before = parts(song)
            for length in LENGTHS:
                self.assertEqual(song.with_length(length), Song(2, length, *echoes))
                self.assertEqual(song.with_length(length=length), Song(2, length, *echoes))
            for value in no_integers(1, FAR):
                self.refuses(InvalidNumber, "value", value, song.with_length, value)
                self.refuses(InvalidNumber, "value", value, song.with_length, length=value)
            self.assertEqual(parts(song), before)

    def test_with_length_up_to_the_sum_of_the_delays(self):
        song = Song(2, 4, (2, U), (3, C))
        self.assertEqual(song.with_length(5), Song(2, 5, (2, U), (3, C)))
        for length in (6, 41, FAR):
            self.refuses_number(TooLong, "limit", 5, song.with_length, length)
        self.assertEqual(song, Song(2, 4, (2, U), (3, C)))

    def test_with_echo(self):
        song = Song(2, 4)
        once = song.with_echo(2, U)
        self.assertEqual(once, Song(2, 4, (2, U)))
        self.assertEqual(song.with_echo(table=U, delay=2), once)
        self.assertEqual(once.with_echo(3, C), Song(2, 4, (2, U), (3, C)))
        self.assertEqual(once.with_echo(2, C).echoes, ((2, U), (2, C)))
        self.assertEqual(song.with_echo(FAR, C).delays, (FAR, 4))
        self.assertEqual([song, once], [Song(2, 4), Song(2, 4, (2, U))])

    def refuses_echo(self, song, delay, table):
        for error in (self.caught(InvalidEcho, song.with_echo, delay, table),
                      self.caught(InvalidEcho, song.with_echo, table=table, delay=delay)):
            self.assertIs(type(error.value), tuple)
            self.assertEqual(len(error.value), 2)
            self.assertIs(error.value[0], delay)
            self.assertIs(error.value[1], table)

    def test_with_a_wrong_echo(self):
        for echoes in ((), ((2, U),), ((2, U), (3, U))):
            song = Song(2, 4, *echoes)
            before = parts(song)
            for value in no_integers(1, FAR):
                self.refuses_echo(song, value, U)
                self.refuses_echo(song, value, None)
            for value in any_values() + [Table.silence(1), Table.silence(3), U.rows, U.text, [U], (U,)]:
                self.refuses_echo(song, 2, value)
            self.assertEqual(parts(song), before)

    def test_with_a_third_echo(self):
        for length in (1, 5):
            song = Song(2, length, (2, U), (3, U))
            self.refuses_echo(song, 2, U)
            self.refuses_echo(song, FAR, C)
            self.assertEqual(song, Song(2, length, (2, U), (3, U)))

    def test_with_a_second_echo_that_comes_too_soon(self):
        song = Song(2, 6, (2, U))
        for delay in (1, 2, 3):
            self.refuses_number(TooLong, "limit", 2 + delay, song.with_echo, delay, U)
        self.assertEqual(song.with_echo(4, U).delays, (2, 4))
        self.assertEqual(song, Song(2, 6, (2, U)))

    def test_without_echo(self):
        song = Song(2, 4, (2, U), (3, C))
        self.assertEqual(song.without_echo(0), Song(2, 4, (3, C)))
        self.assertEqual(song.without_echo(1), Song(2, 4, (2, U)))
        self.assertEqual(song.without_echo(index=0), Song(2, 4, (3, C)))
        self.assertEqual(song.without_echo(index=1).without_echo(index=0), Song(2, 4))
        self.assertEqual(song, Song(2, 4, (2, U), (3, C)))

    def test_without_an_echo_that_is_not_there(self):
        for many in (0, 1, 2):
            song = Song(2, 4, *[(2, U), (3, C)][:many])
            before = parts(song)
            for value in no_integers(0, many - 1):
                self.refuses(NoEcho, "index", value, song.without_echo, value)
                self.refuses(NoEcho, "index", value, song.without_echo, index=value)
            self.assertEqual(parts(song), before)


class TestText(ErrorCase):
    def wrong(self, line, text):
        with self.subTest(text=text):
            self.refuses_number(InvalidText, "line", line, Song.read, text)
            self.refuses_number(InvalidText, "line", line, Song.read, text=text)

    def test_text(self):
        self.assertEqual(Song(2, 4).text, "song 2 4")
        self.assertEqual(Song(2, 4, (2, U)).text, "song 2 4\necho 2 - 0 / 0 -")
        self.assertEqual(Song(2, 5, (3, C), (2, U)).text, "song 2 5\necho 3 0 1 / 2 0\necho 2 - 0 / 0 -")
        self.assertEqual(Song(1, FAR, (FAR, Table([[SIXTY]]))).text, f"song 1 {FAR}\necho {FAR} {SIXTY}")
        self.assertEqual(Song(1, 2, (1, Table([[10 ** 4000 - 1]]))).text, "song 1 2\necho 1 " + "9" * 4000)

    def test_what_is_written_is_read(self):
        for k, length in itertools.product(KINDS, LENGTHS):
            for echoes in ((), ((1, Table(made_rows(k, 1))),), ((3, Table(made_rows(k, 2))), (FAR, Table.silence(k)))):
                song = Song(k, length, *echoes)
                self.assertEqual(Song.read(song.text), song)
                self.assertEqual(Song.read(text=song.text).text, song.text)
        song = Song(1, FAR, (1, Table([[SIXTY]])), (FAR - 1, Table([[10 ** 59]])))
        self.assertEqual(Song.read(song.text), song)

    def test_the_example_of_a_wrong_line(self):
        self.wrong(2, "song 2 4\necho 2 0 0 / 0 0\nsong 2 4")

    def test_values_of_every_other_kind(self):
        for value in any_values():
            if value != "song 2 4":
                self.wrong(0, value)
        for value in (Song(2, 4), U, ["song 2 4"], ("song 2 4",), {"song 2 4": 0}):
            self.wrong(0, value)

    def test_wrong_first_lines(self):
        lines = ["", " ", "song", "song ", "song 2", "song 2 ", "song  2 4", "song 2  4", " song 2 4", "song 2 4 ", "song 2 4 5",
                 "song 0 4", "song 6 4", "song -1 4", "song 2 0", "song 2 -1", "song 2 -", "song - 4", "song 02 4", "song 2 04",
                 "song 2 00", "song +2 4", "song 2 +4", "song 2 4.0", "song 2 1_0", "song 2 1e1", "song 2 four", "Song 2 4",
                 "SONG 2 4", "songs 2 4", "son 2 4", "2 4", "2 4 song", "song 4", "song2 4", "song 24", "song,2,4", "song True 4",
                 "song 2 None", "echo 2 - 0 / 0 -", "song 2 4 echo 2 - 0 / 0 -", f"song 2 {FAR + 1}", f"song 2 {10 * FAR}",
                 f"song {FAR} 4", f"song 2 {SIXTY}", "song 2 " + "0" * 31 + "4", "song 2 " + "1" * 61, "song 2 " + "1" * 5000,
                 "song " + "1" * 5000 + " 4", "song " + "0" * 5000 + "2 4", "song " * 1000]
        for line in lines:
            for rest in ("", "\n", "\necho 2 - 0 / 0 -", "\necho 0 - 0 / 0 -\n\n"):
                self.wrong(0, line + rest)
        self.wrong(0, "\nsong 2 4")

    def wrong_echo_lines(self):
        lines = ["", " ", "echo", "echo ", "echo 2", "echo 2 ", "echo  2 - 0 / 0 -", "echo 2  - 0 / 0 -", " echo 2 - 0 / 0 -",
                 "echo 2 - 0 / 0 - ", "echo 2 - 0 / 0", "echo 2 - 0 / 0 - 0", "echo 2 - 0/0 -", "echo 2 - 0 / 0 - /",
                 "echo 2 - 0 / 00 -", "echo 2 - 0 / 01 -", "echo 2 - 0 / -1 -", "echo 2 - 0  / 0 -", "echo 2 a 0 / 0 -", "echo 2 -",
                 "echo 2 0 0 0 / 0 0 0 / 0 0 0", "echo 2 0 0", "echo 2 / ", "echo 0 - 0 / 0 -", "echo -1 - 0 / 0 -", "echo - 0 / 0 -",
                 "echo 02 - 0 / 0 -", "echo 00 - 0 / 0 -", "echo +2 - 0 / 0 -", "echo 2.0 - 0 / 0 -", "echo two - 0 / 0 -",
                 "Echo 2 - 0 / 0 -", "echos 2 - 0 / 0 -", "ech 2 - 0 / 0 -", "2 - 0 / 0 -", "echo2 - 0 / 0 -", "song 2 4",
                 "- 0 / 0 -", "echo 2 ((0, 1), (2, 0))", "echo 2 " + " / ".join(["0 0 0 0 0 0"] * 6)]
        longs = [f"echo {FAR + 1} - 0 / 0 -", f"echo {SIXTY} - 0 / 0 -", "echo " + "1" * 61 + " - 0 / 0 -",
                 "echo " + "1" * 5000 + " - 0 / 0 -", f"echo 2 {10 ** 60} 0 / 0 -", f"echo 2 - 0 / 0 {10 ** 60}",
                 "echo 2 - 0 / 0 " + "1" * 5000, "echo 2 - 0 / 0 " + "1" * 10 ** 5, "echo 2 - 0 / 0 " + "0" * 61]
        return lines + longs

    def test_wrong_second_lines(self):
        for line in self.wrong_echo_lines():
            for rest in ("", "\n", "\necho 4 - 0 / 0 -", "\nsong 0 0\n\n"):
                self.wrong(1, "song 2 4\n" + line + rest)

    def test_wrong_third_lines(self):
        for line in self.wrong_echo_lines():
            for rest in ("", "\n", "\necho 4 - 0 / 0 -", "\nsong 0 0\n\n"):
                self.wrong(2, "song 2 4\necho 4 - 0 / 0 -\n" + line + rest)

    def test_fourth_lines_are_always_wrong(self):
        for line in self.wrong_echo_lines() + ["echo 2 - 0 / 0 -", "echo 9 - 0 / 0 -"]:
            for rest in ("", "\n", "\necho 4 - 0 / 0 -"):
                self.wrong(3, "song 2 4\necho 4 - 0 / 0 -\necho 2 - 0 / 0 -\n" + line + rest)

    def test_a_second_echo_that_comes_too_soon(self):
        for first, second, length in ((1, 1, 3), (2, 3, 6), (3, 2, 6), (40, 1, 42), (1, FAR - 2, FAR), (1, 1, FAR)):
            text = f"song 2 {length}\necho {first} - 0 / 0 -\necho "
            for rest in ("", "\n", "\necho 9 - 0 / 0 -"):
                self.wrong(2, f"{text}{second} - 0 / 0 -{rest}")
            right = length - first
            self.assertEqual(Song.read(f"{text}{right} - 0 / 0 -"), Song(2, length, (first, U), (right, U)))

    def test_a_first_echo_may_come_soon(self):
        self.assertEqual(Song.read(f"song 2 {FAR}\necho 1 - 0 / 0 -"), Song(2, FAR, (1, U)))
        self.wrong(2, f"song 2 {FAR}\necho 1 - 0 / 0 -\n")

    def test_a_table_of_other_letters(self):
        for k, letters in itertools.permutations(KINDS, 2):
            right, bad = Table.silence(letters).text, Table.silence(k).text
            self.wrong(1, f"song {letters} 4\necho 4 {bad}")
            self.wrong(1, f"song {letters} 4\necho 4 {bad}\necho 4 {right}")
            self.wrong(2, f"song {letters} 4\necho 4 {right}\necho 4 {bad}")

    def test_the_last_line_has_no_newline(self):
        for many in (0, 1, 2):
            text = Song(2, 4, *[(2, U), (3, C)][:many]).text
            self.wrong(many + 1, text + "\n")
            self.wrong(many + 1, text + "\n\n")
            self.wrong(many + 1, text + "\n" + text)

    def check_reading(self, text):
        line = wrong_line(text)
        if line is None:
            self.assertEqual(Song.read(text).text, text)
        else:
            self.wrong(line, text)

    def test_one_character_too_many_or_too_few(self):
        for song in (Song(2, 24, (21, U), (10, C)), Song(2, 30, (2, C)), Song(1, 5, (10, Table([[7]])), (3, Table([[None]])))):
            text = song.text
            for at in range(len(text) + 1):
                for mark in " /-0147ae\n.":
                    self.check_reading(text[:at] + mark + text[at:])
                    self.check_reading(text[:at] + mark + text[at + 1:])
                self.check_reading(text[:at] + text[at + 1:])
                self.check_reading(text[:at])
                self.check_reading(text[at:])


if __name__ == "__main__":
    unittest.main()
