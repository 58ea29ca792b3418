"""Promises 2, 3, 6, 8 and 11 and the section of echofold/books.py."""

import random
import unittest

from echofold import books as module
from echofold.books import Book
from echofold.counts import row_count
from echofold.errors import (InvalidDeed, InvalidEcho, InvalidNumber, InvalidPlace, InvalidSong, InvalidWishes, NoEcho,
                             NothingToRedo, NothingToUndo, TooFar, TooLong)
from echofold.lightest import lightest, shows
from echofold.songs import Song
from echofold.tables import Table
from tests.copies import Copies, Wrong, after_all, are_prices, rows_left, song_of
from tests.reference import (ORDERS, bound_of, great_songs, least_of, least_price_of, made_song, made_wishes, price_of,
                             row_count_of, small_songs)
from tests.samples import HUGE, CallCase, any_values, far_songs, no_integers, not_songs

FAR = 10 ** 30
U = Table(((None, 0), (0, None)))
C = Table(((0, 1), (2, 0)))
ODD = Table.silence(3)
NAMES = ("song", "wishes", "moment", "do", "run", "undo", "redo", "tried", "lightest", "row_count", "letters_left")


def made_deed(maker, letters):
    """A deed that a book may have to do; many are right, many are not."""
    word = maker.choice(["wish", "wish", "wish", "free", "length", "length", "echo", "echo", "drop", "drop", "odd"])
    place = maker.choice([0, 1, 2, 3, 4, maker.choice([5, 7, 40, -1, True, None, "0"])])
    if word == "wish":
        prices = tuple(maker.choice([None, 0, 1, 2, 5, 10 ** 70]) for _ in range(letters))
        return (word, place, maker.choice([prices, prices, prices, prices, list(prices), prices[1:], prices + (1,), None, (-1,) * letters]))
    if word == "length":
        return (word, maker.choice([1, 2, 3, 4, 5, 6, 6, 5, maker.choice([0, 41, FAR, FAR + 1, None, False, "3"])]))
    if word == "echo":
        rows = [[maker.choice([None, 0, 0, 1, 3]) for _ in range(letters)] for _ in range(letters)]
        return (word, maker.choice([1, 2, 3, 3, 4, 9, 0, FAR, FAR + 1, True]), maker.choice([Table(rows)] * 8 + [rows, None, Table.silence(letters % 5 + 1)]))
    if word == "odd":
        return maker.choice([None, (), ("wish", 0), ("undo",), ["free", 0], ("free", 0, 0), "drop", ("Drop", 0), (0, 0), ([], 0), (("drop",), 0)])
    return (word, place)


class BookCase(CallCase):
    def check_state(self, book, state):
        song = song_of(state)
        self.assertEqual(book.song, song)
        self.assertEqual(list(book.wishes.items()), sorted(state[3].items(), key=lambda item: item[0]))
        self.assertEqual([type(book.song), type(book.wishes), type(book.moment)], [Song, dict, int])

    def check_answers(self, book, state):
        """Held against going through all rows."""
        song, wishes = song_of(state), state[3]
        rows = rows_left(song, wishes)
        found = book.lightest()
        least = least_of([price_of(song, row, wishes) for row in rows])
        self.assertEqual(found[:2] if least is not None else found[0], ("row", least) if least is not None else "none")
        self.assertEqual(bound_of(song, wishes, found[-1]), least)
        if least is not None:
            self.assertEqual(price_of(song, found[2], wishes), least)
        self.assertEqual(book.row_count(), len(rows))
        left = book.letters_left()
        self.assertEqual(left, [tuple(sorted({row[place] for row in rows})) for place in range(song.length)])
        self.assertEqual([type(left)] + [type(letters) for letters in left], [list] + [tuple] * song.length)

    def same(self, book, other, call, *values):
        """Both do the same: the same error, or none. other is a call of the copies."""
        try:
            other(*values)
            want = None
        except Wrong as wrong:
            want = wrong.args
        if want is None:
            self.assertIs(call(*values), None)
            return
        error, field, value = want
        caught = self.caught(error, call, *values)
        if field is not None:
            self.assertEqual(getattr(caught, field), value)
            self.assertIs(type(getattr(caught, field)), type(value))


class TestInterface(unittest.TestCase):
    def test_everything_is_defined_in_its_place(self):
        self.assertEqual(module.Book.__module__, "echofold.books")
        for name in NAMES:
            self.assertIn(name, vars(Book))


class TestBook(BookCase):
    def test_the_example(self):
        book = Book(Song(2, 4, (2, U), (3, U)))
        self.assertIs(book.run(("wish", 0, (None, 2)), ("length", 3)), None)
        self.assertEqual([book.lightest()[1], book.row_count(), book.tried(("drop", 0)), book.moment], [2, 2, (2, 4), 1])

    def test_a_new_book(self):
        for song in small_songs(20)[::5] + [Song(2, 40), Song(5, 40, (40, ODD5))]:
            book = Book(song)
            self.assertEqual([book.song, book.wishes, book.moment], [song, {}, 0])
            self.assertEqual(book.row_count(), row_count(song))
            self.assertEqual(book.lightest(), lightest(song))
        self.assertEqual(Book(song=Song(1, 1)).song, Song(1, 1))

    def test_wrong_songs(self):
        for value in not_songs():
            self.refuses(InvalidSong, "value", value, Book, value)
            self.refuses(InvalidSong, "value", value, Book, song=value)
        for song in far_songs():
            self.refuses_number(TooFar, "limit", 40, Book, song)

    def test_each_deed(self):
        book = Book(Song(3, 4, (2, ODD)))
        steps = [(("wish", 3, (5, None, 0)), (Song(3, 4, (2, ODD)), {3: (5, None, 0)})),
                 (("wish", 0, (1, 1, 10 ** 70)), (Song(3, 4, (2, ODD)), {0: (1, 1, 10 ** 70), 3: (5, None, 0)})),
                 (("wish", 3, (0, 0, 0)), (Song(3, 4, (2, ODD)), {0: (1, 1, 10 ** 70), 3: (0, 0, 0)})),
                 (("echo", FAR, ODD), (Song(3, 4, (2, ODD), (FAR, ODD)), {0: (1, 1, 10 ** 70), 3: (0, 0, 0)})),
                 (("length", 40), (Song(3, 40, (2, ODD), (FAR, ODD)), {0: (1, 1, 10 ** 70), 3: (0, 0, 0)})),
                 (("length", 3), (Song(3, 3, (2, ODD), (FAR, ODD)), {0: (1, 1, 10 ** 70)})),
                 (("length", 4), (Song(3, 4, (2, ODD), (FAR, ODD)), {0: (1, 1, 10 ** 70)})),
                 (("drop", 0), (Song(3, 4, (FAR, ODD)), {0: (1, 1, 10 ** 70)})),
                 (("free", 1), (Song(3, 4, (FAR, ODD)), {0: (1, 1, 10 ** 70)})),
                 (("free", 0), (Song(3, 4, (FAR, ODD)), {})),
                 (("drop", 0), (Song(3, 4), {}))]
        for moment, (deed, (song, wishes)) in enumerate(steps, 1):
            self.assertIs(book.do(deed), None)
            self.assertEqual([book.song, book.wishes, book.moment], [song, wishes, moment])
        for moment in range(len(steps) - 1, 0, -1):
            self.assertIs(book.undo(), None)
            self.assertEqual([book.song, book.wishes, book.moment], [*steps[moment - 1][1], moment])

    def test_answers_against_all_rows(self):
        for seed, song in enumerate(small_songs(90)[::2]):
            book = Book(song)
            for more in (2, 3, 4, 5):
                wishes = made_wishes(song, seed + more) or {}
                book.run(*[("free", place) for place in range(song.length)], *[("wish", place, prices) for place, prices in wishes.items()])
                self.check_state(book, (song.letters, song.length, song.echoes, wishes))
                self.check_answers(book, (song.letters, song.length, song.echoes, wishes))

    def test_answers_at_forty_places(self):
        for seed, song in enumerate(great_songs()[::3]):
            wishes = made_wishes(song, seed) or {}
            book = Book(song)
            book.run(*[("wish", place, prices) for place, prices in wishes.items()])
            least = least_price_of(song, wishes, ORDERS[seed % 3])
            many = row_count_of(song, ORDERS[seed % 3], {place: tuple(None if p is None else 0 for p in prices) for place, prices in wishes.items()})
            found = book.lightest()
            self.assertEqual(found[:-1], lightest(song, wishes)[:-1])
            self.assertTrue(shows(song, wishes, least, found[-1]))
            self.assertEqual([book.row_count(), book.tried()], [many, (least, many)])

    def test_wishes_that_are_none_bar_letters(self):
        book = Book(Song(2, 3, (1, U)))
        book.do(("wish", 1, (7, None)))
        self.assertEqual([book.row_count(), book.letters_left(), book.tried()], [1, [(1,), (0,), (1,)], (7, 1)])
        book.do(("wish", 2, (7, None)))
        self.assertEqual([book.row_count(), book.letters_left(), book.tried(), book.lightest()[0]], [0, [()] * 3, (None, 0), "none"])

    def test_what_is_told_may_be_changed(self):
        book = Book(Song(2, 3, (1, C)))
        book.do(("wish", 1, (7, 0)))
        for tell in (lambda: book.wishes, book.letters_left, lambda: book.lightest()[3]):
            want = tell()
            tell().clear()
            self.assertEqual(tell(), want)
        book.wishes[0] = (0, 0)
        book.wishes[1] = (0, 0)
        self.assertEqual([book.wishes, book.moment], [{1: (7, 0)}, 1])

    def test_a_book_is_equal_to_nothing_else(self):
        book = Book(Song(2, 3))
        for value in any_values() + [Song(2, 3), U, Book]:
            self.assertIs(book == value, False)
            self.assertIs(value == book, False)
            self.assertIs(book != value, True)
        self.assertIs(book == book, True)


ODD5 = Table.silence(5)


class TestDeeds(BookCase):
    def test_values_that_are_no_deeds(self):
        deeds = [("wish", 0, (1, 1)), ("free", 0), ("length", 2), ("echo", 3, U), ("drop", 0)]
        wrong = any_values() + [list(deed) for deed in deeds] + [deed + (0,) for deed in deeds] + [deed[:-1] for deed in deeds]
        wrong += [deed[:1] for deed in deeds] + [((deed[0],) + deed[1:],) for deed in deeds] + [(deed[0].upper(),) + deed[1:] for deed in deeds]
        wrong += [deed[::-1] for deed in deeds] + [("undo",), ("", 0), (None, 0), ("wish ", 0, 0), ([], 0), ({}, 0, 0), (["drop"], 0), ("song", 2, 1), "drop",
                                                   {"drop": 0}, Song(2, 3), U]
        book = Book(Song(2, 3, (2, C)))
        book.do(("wish", 1, (3, 4)))
        for value in wrong:
            self.refuses_number(InvalidDeed, "index", 0, book.do, value)
            self.refuses_number(InvalidDeed, "index", 0, book.do, deed=value)
            for call in (book.run, book.tried):
                self.refuses_number(InvalidDeed, "index", 0, call, value, None)
                self.refuses_number(InvalidDeed, "index", 2, call, *deeds[:2], value, None)
        self.assertEqual([book.song, book.wishes, book.moment], [Song(2, 3, (2, C)), {1: (3, 4)}, 1])

    def refused(self, book, deed, error, field, value, by_value=False):
        """What do refuses; run and tried refuse it, too, and nothing has changed."""
        before = (book.song, book.wishes, book.moment)
        found = getattr(self.caught(error, book.do, deed), field)
        if by_value:
            self.assertEqual((found, type(found)), (value, type(value)))
        else:
            self.assertIs(found, value)
        for call in (book.run, book.tried):
            self.refuses_number(InvalidDeed, "index", 0, call, deed)
            self.refuses_number(InvalidDeed, "index", 1, call, ("free", 0), deed, ("free", 0))
        self.assertEqual((book.song, book.wishes, book.moment), before)

    def test_wrong_places(self):
        for song in (Song(2, 3), Song(1, 1), Song(2, 40, (20, U), (20, U))):
            book = Book(song)
            for place in no_integers(0, song.length - 1):
                self.refused(book, ("free", place), InvalidPlace, "value", place)
                for prices in ((0,) * song.letters, None, [0]):
                    self.refused(book, ("wish", place, prices), InvalidPlace, "value", place)

    def test_wrong_prices(self):
        for song in (Song(2, 3), Song(1, 1), Song(5, 40)):
            book = Book(song)
            right = (3,) * song.letters
            wrong = [value for value in any_values() if not are_prices(value, song.letters)]
            wrong += [list(right), right + (0,), right[1:], (right,), right[1:] + (-1,), right[1:] + (True,), right[1:] + ("0",), right[1:] + ((),)]
            for prices in wrong:
                self.refused(book, ("wish", song.length - 1, prices), InvalidWishes, "value", prices)

    def test_wrong_lengths(self):
        for song in (Song(2, 3), Song(2, 3, (1, U)), Song(2, 3, (1, U), (2, U)), Song(2, 40, (20, U), (20, U))):
            book = Book(song)
            for length in no_integers(1, FAR):
                self.refused(book, ("length", length), InvalidNumber, "value", length)
            for length in (41, 42, 100, FAR - 1, FAR):
                self.refused(book, ("length", length), TooFar, "limit", 40, by_value=True)
        for reach in (4, 39):
            book = Book(Song(2, 3, (1, U), (reach - 1, C)))
            book.do(("length", reach))
            for length in {reach + 1, 40}:
                self.refused(book, ("length", length), TooLong, "limit", reach, by_value=True)

    def test_wrong_echoes(self):
        for song in (Song(2, 3), Song(2, 3, (1, U)), Song(2, 3, (1, U), (2, U))):
            book = Book(song)
            for delay in no_integers(1, FAR):
                for table in (U, None):
                    self.refused(book, ("echo", delay, table), InvalidEcho, "value", (delay, table), by_value=True)
            for table in any_values() + [U.rows, Table([[0]]), ODD]:
                self.refused(book, ("echo", 9, table), InvalidEcho, "value", (9, table), by_value=True)
            if len(song.echoes) == 2:
                self.refused(book, ("echo", 9, U), InvalidEcho, "value", (9, U), by_value=True)
                self.refused(book, ("echo", 1, U), InvalidEcho, "value", (1, U), by_value=True)

    def test_an_echo_too_near(self):
        book = Book(Song(2, 40, (7, U)))
        for delay in (1, 2, 32):
            self.refused(book, ("echo", delay, C), TooLong, "limit", 7 + delay, by_value=True)
        book.do(("echo", 33, C))
        self.assertEqual(book.song, Song(2, 40, (7, U), (33, C)))

    def test_wrong_indexes(self):
        for song in (Song(2, 3), Song(2, 3, (1, U)), Song(2, 3, (1, U), (2, C))):
            book = Book(song)
            for index in no_integers(0, len(song.echoes) - 1):
                self.refused(book, ("drop", index), NoEcho, "index", index)
            for index in range(len(song.echoes)):
                book.do(("drop", index))
                self.assertEqual(book.song, song.without_echo(index))
                book.undo()

    def test_deeds_that_become_right_or_wrong_by_the_ones_before(self):
        book = Book(Song(2, 3, (1, U), (2, U)))
        self.refuses_number(InvalidDeed, "index", 0, book.run, ("length", 5), ("drop", 0))
        book.run(("drop", 0), ("length", 5), ("wish", 4, (0, 1)))
        self.refuses_number(InvalidDeed, "index", 1, book.run, ("length", 4), ("wish", 4, (0, 1)))
        self.refuses_number(InvalidDeed, "index", 2, book.run, ("echo", 9, U), ("drop", 1), ("drop", 1), None)
        self.refuses_number(InvalidDeed, "index", 1, book.tried, ("echo", 9, U), ("echo", 9, U))
        self.refuses_number(InvalidDeed, "index", 1, book.run, ("free", 0), ["free", 0], ("free", 9))
        self.assertEqual([book.song, book.wishes, book.moment], [Song(2, 5, (2, U)), {4: (0, 1)}, 1])
        book.run(("length", 4), ("length", 5))
        self.assertEqual([book.wishes, book.moment], [{}, 2])


class TestHistories(BookCase):
    def test_both_ends(self):
        book = Book(Song(2, 3))
        self.caught(NothingToUndo, book.undo)
        self.caught(NothingToRedo, book.redo)
        book.do(("length", 2))
        self.caught(NothingToRedo, book.redo)
        book.undo()
        self.caught(NothingToUndo, book.undo)
        self.assertIs(book.redo(), None)
        self.caught(NothingToRedo, book.redo)
        self.assertEqual([book.song, book.moment], [Song(2, 2), 1])

    def test_a_run_of_no_deeds_is_something_done(self):
        book = Book(Song(2, 3))
        self.assertIs(book.run(), None)
        self.assertEqual([book.song, book.moment], [Song(2, 3), 1])
        book.do(("length", 2))
        book.undo()
        book.run()
        self.caught(NothingToRedo, book.redo)
        self.assertEqual([book.song, book.moment], [Song(2, 3), 2])
        book.undo()
        book.undo()
        self.caught(NothingToUndo, book.undo)
        self.assertEqual(book.moment, 0)

    def test_a_deed_that_changes_nothing_is_something_done(self):
        book = Book(Song(2, 3))
        for deed in (("free", 0), ("length", 3)):
            book.do(("wish", 0, (1, 1)))
            book.undo()
            moment = book.moment
            book.do(deed)
            self.assertEqual(book.moment, moment + 1)
            self.caught(NothingToRedo, book.redo)

    def test_what_was_taken_back_is_gone_behind_a_new_deed_only(self):
        book = Book(Song(2, 9))
        for length in (8, 7, 6):
            book.do(("length", length))
        book.undo()
        book.undo()
        for call, deed in ((book.do, ("length", 41)), (book.do, None), (book.run, ("drop", 0)), (book.tried, ("drop", 0))):
            with self.assertRaises((TooFar, InvalidDeed)):
                call(deed)
        self.assertEqual(book.tried(("length", 1)), (0, 2))
        self.assertEqual(book.tried(), (0, 2 ** 8))
        self.assertEqual([book.lightest()[1], book.row_count(), len(book.letters_left()), book.wishes], [0, 2 ** 8, 8, {}])
        book.redo()
        self.assertEqual([book.song.length, book.moment], [7, 2])
        book.redo()
        self.assertEqual([book.song.length, book.moment], [6, 3])
        book.undo()
        book.undo()
        book.do(("length", 3))
        self.caught(NothingToRedo, book.redo)
        self.assertEqual([book.song.length, book.moment], [3, 2])
        book.undo()
        self.assertEqual([book.song.length, book.moment], [8, 1])
        book.redo()
        self.assertEqual([book.song.length, book.moment], [3, 2])

    def test_a_run_is_taken_back_at_once(self):
        book = Book(Song(2, 3, (2, U)))
        book.run(("wish", 2, (1, 2)), ("wish", 0, (3, 4)), ("echo", 2, C), ("length", 4))
        want = [book.song, book.wishes, book.moment]
        self.assertEqual(want, [Song(2, 4, (2, U), (2, C)), {0: (3, 4), 2: (1, 2)}, 1])
        book.undo()
        self.assertEqual([book.song, book.wishes, book.moment], [Song(2, 3, (2, U)), {}, 0])
        book.redo()
        self.assertEqual([book.song, book.wishes, book.moment], want)

    def step(self, maker, book, copies):
        """One thing that is done to a book and to its copies."""
        kind = maker.choice(["do", "do", "do", "run", "undo", "undo", "redo", "redo", "tried"])
        deeds = [made_deed(maker, book.song.letters) for _ in range(maker.choice([0, 1, 1, 2, 3]))]
        if kind == "do":
            self.same(book, copies.do, book.do, made_deed(maker, book.song.letters))
        elif kind == "run":
            self.same(book, lambda *deeds: copies.run(deeds), book.run, *deeds)
        elif kind == "tried":
            try:
                state = after_all(copies.past[-1], deeds)
            except Wrong as wrong:
                self.refuses_number(InvalidDeed, "index", wrong.args[2], book.tried, *deeds)
            else:
                song, wishes = song_of(state), state[3]
                if song.letters ** song.length < 300:
                    rows = rows_left(song, wishes)
                    found = book.tried(*deeds)
                    self.assertEqual(found, (least_of([price_of(song, row, wishes) for row in rows]), len(rows)))
                    self.assertIs(type(found), tuple)
        else:
            self.same(book, getattr(copies, kind), getattr(book, kind))

    def test_many_moments_against_copies_of_all_states(self):
        for seed in range(40):
            maker = random.Random(seed)
            song = made_song(1 + seed % 3, 1 + seed % 5, [(), (2,), (3, 2), (1, 4)][seed % 4], seed)
            book, copies = Book(song), Copies(song)
            for count in range(60):
                self.step(maker, book, copies)
                self.check_state(book, copies.past[-1])
                self.assertEqual(book.moment, len(copies.past) - 1)
                if count % 6 == 0 and song.letters ** book.song.length < 300:
                    self.check_answers(book, copies.past[-1])

    def test_back_to_the_beginning_and_done_again(self):
        maker = random.Random(7)
        book, copies = Book(Song(2, 4)), Copies(Song(2, 4))
        for _ in range(200):
            deed = made_deed(maker, 2)
            self.same(book, copies.do, book.do, deed)
        last = len(copies.past) - 1
        self.assertGreater(last, 60)
        for moment in range(last - 1, -1, -1):
            book.undo()
            self.assertEqual(book.moment, moment)
            self.check_state(book, copies.past[moment])
        self.caught(NothingToUndo, book.undo)
        for moment in range(1, last + 1):
            book.redo()
            self.assertEqual(book.moment, moment)
            self.check_state(book, copies.past[moment])
        self.caught(NothingToRedo, book.redo)

    def test_two_books_have_nothing_in_common(self):
        song = Song(2, 3, (2, U))
        one, other = Book(song), Book(song)
        one.do(("wish", 0, (1, 1)))
        one.do(("length", 2))
        self.assertEqual([other.song, other.wishes, other.moment], [song, {}, 0])
        self.caught(NothingToUndo, other.undo)

    def test_deeds_at_each_bound(self):
        book = Book(Song(2, 1))
        book.run(("length", 40), ("echo", 1, U), ("echo", FAR, C), ("wish", 39, (0, 9)), ("wish", 0, (HUGE, 0)))
        self.assertEqual([book.song, list(book.wishes)], [Song(2, 40, (1, U), (FAR, C)), [0, 39]])
        self.assertEqual(book.lightest()[:3], ("row", 0, (1, 0) * 20))
        book.run(("length", 1), ("drop", 1), ("drop", 0), ("free", 0))
        self.assertEqual([book.song, book.wishes, book.row_count(), book.letters_left()], [Song(2, 1), {}, 2, [(0, 1)]])


if __name__ == "__main__":
    unittest.main()
