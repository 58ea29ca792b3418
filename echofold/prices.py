"""Prices of rows: what is a row, what are wishes and fixed letters, and what a row costs."""

from echofold.basics import total
from echofold.errors import InvalidFixed, InvalidRow, InvalidWishes
from echofold.songs import check_near, is_place
from echofold.tables import are_prices, is_letter


def is_row(song, value):
    """Tell whether the value is a row of a near song."""
    check_near(song)
    if not isinstance(value, tuple) or len(value) != song.length:
        return False
    return all([is_letter(letter, song.letters) for letter in value])


def is_wishes(song, value):
    """Tell whether the value is wishes of a near song."""
    check_near(song)
    return are_wishes(song, value)


def is_fixed(song, value):
    """Tell whether the value is fixed letters of a near song."""
    check_near(song)
    if not isinstance(value, dict):
        return False
    return all([is_place(song, place) and is_letter(letter, song.letters) for place, letter in value.items()])


def price(song, row, wishes=None):
    """Return the price of a row of a near song, with the wishes where some are passed."""
    check_row(song, row)
    check_wishes(song, wishes)
    asked = [] if wishes is None else [wish[row[place]] for place, wish in wishes.items()]
    return total([link_price(song, row, link) for link in links(song)] + asked)


def faults(song, row):
    """Return the list of the links (lesser place, greater place, index of the echo) at which the row is barred."""
    check_row(song, row)
    return sorted([link for link in links(song) if link_price(song, row, link) is None])


def check_row(song, row):
    """Raise InvalidRow unless this is a row of a near song."""
    if not is_row(song, row):
        raise InvalidRow(row)


def check_wishes(song, wishes):
    """Raise InvalidWishes unless these are wishes of a near song, or None for no wishes."""
    if wishes is not None and not is_wishes(song, wishes):
        raise InvalidWishes(wishes)


def check_fixed(song, fixed):
    """Raise InvalidFixed unless these are fixed letters of a near song, or None for none."""
    if fixed is not None and not is_fixed(song, fixed):
        raise InvalidFixed(fixed)


def are_wishes(song, value):
    """Tell whether the value is wishes of a song of any length."""
    if not isinstance(value, dict):
        return False
    return all([is_place(song, place) and is_wish(song, wish) for place, wish in value.items()])


def is_wish(song, value):
    """Tell whether the value is a tuple with a price for each letter."""
    return isinstance(value, tuple) and are_prices(value, song.letters)


def links(song):
    """Return the list of all links (lesser place, greater place, index of the echo)."""
    found = []
    for index, (delay, _) in enumerate(song.echoes):
        for place in range(song.length - delay):
            found.append((place, place + delay, index))
    return found


def link_price(song, row, link):
    """Return the price of the letters that meet at a link."""
    lesser, greater, index = link
    table = song.echoes[index][1]
    return table.price(row[lesser], row[greater])
