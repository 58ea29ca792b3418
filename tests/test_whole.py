"""Promises 1, 2 and 3 over the whole program: its interface, and that all its parts agree on the same songs."""

import copy
import importlib
import inspect
import itertools
import unittest

from echofold.along import least_with, table_along
from echofold.books import Book
from echofold.changes import renamed, turned_song, unwoven, woven
from echofold.choices import letters_left, table_between
from echofold.console import Console
from echofold.counts import count_by_price, row_count
from echofold.folds import count_rest, least_price, shape_tables
from echofold.lightest import lightest, nearest, shows
from echofold.numbers import next_row, number_of, row_at, rows_from
from echofold.prices import faults, is_fixed, is_row, is_wishes, price
from echofold.shapes import place_at, shapes, strand_of
from echofold.songs import Song
from echofold.strands import strand_at, strands
from echofold.tables import Table
from tests.reference import great_songs, made_fixed, made_wishes, small_songs, top
from tests.samples import CallCase

# The functions and classes of the interface, with their parameters; * stands before one for all values that are left.
INTERFACE = {
    "tables": {"Table": "rows"},
    "songs": {"Song": "letters length *echoes"},
    "strands": {"next_place": "song place", "place_before": "song place", "strands": "song", "strand_at": "song place",
                "Strand": None, "Line": None, "Ring": None},
    "prices": {"is_row": "song value", "is_wishes": "song value", "is_fixed": "song value", "price": "song row wishes=None",
               "faults": "song row"},
    "lightest": {"lightest": "song wishes=None", "shows": "song wishes price record", "nearest": "song row"},
    "counts": {"row_count": "song fixed=None", "count_by_price": "song most wishes=None"},
    "numbers": {"row_at": "song number fixed=None", "number_of": "song row fixed=None", "next_row": "song row fixed=None",
                "rows_from": "song row=None fixed=None"},
    "choices": {"letters_left": "song fixed=None", "table_between": "song one other wishes=None"},
    "shapes": {"shapes": "song", "strand_of": "song place", "place_at": "song place spot"},
    "folds": {"shape_tables": "song", "least_price": "song", "count_rest": "song modulus"},
    "along": {"table_along": "song place hops", "least_with": "song wishes"},
    "changes": {"turned_song": "song", "renamed": "song letters", "woven": "*songs", "unwoven": "song parts",
                "own_delays": "table row", "own_table": "letters row delay"},
    "books": {"Book": "song"},
    "console": {"Console": ""},
}
METHODS = {
    ("tables", "Table"): {"likeness": "letters", "silence": "letters", "pairs": "letters *pairs", "price": "self first second",
                          "again": "self times", "read": "text"},
    ("songs", "Song"): {"with_length": "self length", "with_echo": "self delay table", "without_echo": "self index", "read": "text"},
    ("books", "Book"): {"do": "self deed", "run": "self *deeds", "undo": "self", "redo": "self", "tried": "self *deeds",
                        "lightest": "self", "row_count": "self", "letters_left": "self"},
    ("console", "Console"): {"run": "self line"},
}
PROPERTIES = {
    ("tables", "Table"): "rows letters text", ("songs", "Song"): "letters length echoes delays is_near text",
    ("strands", "Strand"): "places hops shape", ("strands", "Line"): "places hops shape", ("strands", "Ring"): "places hops shape",
    ("books", "Book"): "song wishes moment",
}


def parameters(call):
    """The parameters as they are written above."""
    found = []
    for name, part in inspect.signature(call).parameters.items():
        star = "*" if part.kind is part.VAR_POSITIONAL else ""
        default = "" if part.default is part.empty else f"={part.default}"
        found.append(star + name + default)
    return " ".join(found)


class TestInterface(unittest.TestCase):
    def test_functions_and_classes(self):
        for file, names in INTERFACE.items():
            module = importlib.import_module(f"echofold.{file}")
            for name, wanted in names.items():
                with self.subTest(f"{file}.{name}"):
                    made = getattr(module, name)
                    self.assertEqual(made.__module__, f"echofold.{file}")
                    if wanted is not None:
                        self.assertEqual(parameters(made), wanted)

    def test_methods_are_defined_in_their_classes(self):
        for (file, name), methods in METHODS.items():
            made = getattr(importlib.import_module(f"echofold.{file}"), name)
            for method, wanted in methods.items():
                with self.subTest(f"{name}.{method}"):
                    self.assertIn(method, vars(made))
                    self.assertEqual(parameters(getattr(made, method)), wanted)

    def test_properties_are_defined_in_their_classes(self):
        for (file, name), wanted in PROPERTIES.items():
            made = getattr(importlib.import_module(f"echofold.{file}"), name)
            for part in wanted.split():
                self.assertIsInstance(vars(made)[part], property)


class WholeCase(CallCase):
    def songs(self):
        return list(enumerate(small_songs(60)[::3] + great_songs(4)[::8] + great_songs(3, 39)[3::9]))


class TestAllAgree(WholeCase):
    def test_counts_numbers_and_choices(self):
        for seed, song in self.songs():
            fixed = made_fixed(song, seed)
            many = row_count(song, fixed)
            left = letters_left(song, fixed)
            self.assertEqual(many > 0, all(left))
            self.assertEqual(sum(row_count(song, {**(fixed or {}), 0: a}) for a in left[0] if (fixed or {}).get(0, a) == a), many)
            rows = [] if many == 0 else [row_at(song, 0, fixed), row_at(song, many - 1, fixed)]
            for row, number in zip(rows, (0, many - 1)):
                self.assertEqual(number_of(song, row, fixed), number)
                self.assertIsNot(price(song, row), None)
                self.assertEqual([faults(song, row), is_row(song, row), nearest(song, row)], [[], True, (0, row)])
                self.assertTrue(all(letter in letters for letter, letters in zip(row, left)))
                self.assertEqual(next(rows_from(song, row, fixed)), row)
            self.assertIs(next_row(song, rows[-1], fixed) if rows else None, None)
            self.assertEqual(list(itertools.islice(rows_from(song, None, fixed), 1)), rows[:1])

    def test_lightest_rows_counts_by_price_and_tables(self):
        for seed, song in self.songs():
            wishes = made_wishes(song, seed)
            found = lightest(song, wishes)
            least = found[1] if found[0] == "row" else None
            self.assertTrue(shows(song, wishes, least, found[-1]))
            counts = count_by_price(song, 60, wishes)
            self.assertEqual(next((p for p, many in enumerate(counts) if many), None), least if top(least) <= top(60) else None)
            one, other = seed % song.length, song.length - 1
            for table in (table_between(song, one, other, wishes), -table_between(song, other, one, wishes)):
                self.assertEqual(min((p for row in table.rows for p in row if p is not None), default=None), least)
            if found[0] == "row":
                self.assertEqual(price(song, found[2], wishes), least)
                self.assertEqual(table_between(song, one, other, wishes).price(found[2][one], found[2][other]), least)
            few = dict(list((wishes or {}).items())[:20])
            self.assertEqual(least_with(song, few), lightest(song, few)[1] if lightest(song, few)[0] == "row" else None)

    def test_near_and_far(self):
        for seed, song in self.songs():
            found = lightest(song)
            self.assertEqual(least_price(song), found[1] if found[0] == "row" else None)
            self.assertEqual(count_rest(song, 10 ** 9), row_count(song) % 10 ** 9)
            self.assertEqual(sum(shape[4] for shape in shapes(song)), len(list(strands(song))))
            strand = strand_at(song, seed % song.length)
            hops = len(strand.hops)
            kind, first, spot = strand_of(song, seed % song.length)
            self.assertEqual((kind, first, place_at(song, first, spot)), (strand.shape[0], strand.places[0], seed % song.length))
            tables = [table for shape, table in zip(shapes(song), shape_tables(song)) if shape[:4] == strand.shape]
            self.assertEqual([table_along(song, first, hops)], tables)

    def test_changed_songs(self):
        for seed, song in self.songs():
            order = tuple((a + 1) % song.letters for a in range(song.letters))
            for other in (turned_song(song), renamed(song, order)):
                self.assertEqual([row_count(other), least_price(other)], [row_count(song), least_price(song)])
                self.assertEqual(other.delays, song.delays)
            for parts in range(1, 5):
                if parts <= song.length and all(delay % parts == 0 for delay, _ in song.echoes):
                    made = unwoven(song, parts)
                    self.assertEqual(woven(*made), song)
                    many = 1
                    for part in made:
                        many *= row_count(part)
                    self.assertEqual(many, row_count(song))

    def test_books_and_the_console(self):
        for seed, song in self.songs():
            wishes = {place: tuple(price if price is None else price % 1000 for price in prices)
                      for place, prices in (made_wishes(song, seed) or {}).items()}
            book, console = Book(song), Console()
            book.run(*[("wish", place, prices) for place, prices in wishes.items()])
            lines = [f"song {song.letters} {song.length}", *[f"echo {delay} {table.text}" for delay, table in song.echoes]]
            lines += [f"wish {place} " + " ".join("-" if p is None else str(p) for p in prices) for place, prices in wishes.items()]
            self.assertEqual([console.run(line) for line in lines], ["ok"] * len(lines))
            found = lightest(song, wishes)
            self.assertEqual(book.lightest(), found)
            self.assertEqual(book.tried(), (found[1] if found[0] == "row" else None, book.row_count()))
            self.assertEqual(console.run("count"), str(book.row_count()))
            self.assertEqual([console.run("text"), book.song], [song.text, song])
            self.assertEqual(console.run("shapes"), "; ".join(" ".join(map(str, shape)) for shape in shapes(song)))
            self.assertEqual((book.row_count() > 0, all(book.letters_left())), (found[0] == "row",) * 2)
            told = console.run("lightest")
            if found[0] == "row":
                row = tuple(map(int, told.split(" ")[1]))
                self.assertEqual([told.split(" ")[0], price(song, row, wishes)], [str(found[1]), found[1]])
                self.assertLessEqual(row, found[2])
                self.assertTrue(all(letter in letters for letter, letters in zip(row, book.letters_left())))
                first = tuple(map(int, console.run("row 0")))
                self.assertIsNot(price(song, first, wishes), None)
            else:
                self.assertEqual(told, "none")

    def test_fixed_letters_and_wishes_that_bar_all_others(self):
        for seed, song in self.songs():
            fixed = made_fixed(song, seed) or {}
            book = Book(song)
            book.run(*[("wish", place, tuple(0 if a == letter else None for a in range(song.letters))) for place, letter in fixed.items()])
            self.assertEqual([book.row_count(), book.letters_left()], [row_count(song, fixed), letters_left(song, fixed)])
            self.assertTrue(is_fixed(song, fixed) and is_wishes(song, book.wishes))


class TestConventions(WholeCase):
    def test_nothing_that_is_passed_is_changed_and_equal_calls_return_equal_results(self):
        for seed, song in self.songs()[::4]:
            wishes, fixed = made_wishes(song, seed) or {}, made_fixed(song, seed) or {}
            row, few = (0,) * song.length, dict(list(wishes.items())[:20])
            calls = [(lightest, song, wishes), (shows, song, wishes, 0, lightest(song, wishes)[-1]), (price, song, row, wishes), (faults, song, row),
                     (row_count, song, fixed), (count_by_price, song, 9, wishes), (next_row, song, row, fixed), (letters_left, song, fixed),
                     (table_between, song, 0, 0, wishes), (least_with, song, few), (shapes, song), (shape_tables, song), (least_price, song),
                     (count_rest, song, 7), (turned_song, song), (unwoven, song, 1), (woven, song), (strand_at, song, 0), (table_along, song, 0, 0)]
            text = song.text
            for call, *values in calls:
                self.leaves_alone(call, *values)
                self.assertEqual(song.text, text)

    def test_results_are_new(self):
        for seed, song in self.songs()[::4]:
            calls = [(faults, song, (0,) * song.length), (count_by_price, song, 3), (letters_left, song), (shapes, song), (shape_tables, song),
                     (unwoven, song, 1), (lambda song: lightest(song)[-1], song)]
            for call, *values in calls:
                want = copy.deepcopy(call(*values))
                found = call(*values)
                found.clear()
                found.append("changed")
                self.assertEqual(call(*values), want)
            entries = lightest(song)[-1]
            want = copy.deepcopy(entries)
            entries[0].clear()
            self.assertEqual(lightest(song)[-1], want)


if __name__ == "__main__":
    unittest.main()
