"""Integers and prices: which values they are, how they are summed, and how they stand in a text."""

DIGITS = "0123456789"
MOST_DIGITS = 60
BARRED_TEXT = "-"


def is_whole(value):
    """Tell whether the value is an int that is not a bool."""
    return isinstance(value, int) and not isinstance(value, bool)


def is_between(value, low, high):
    """Tell whether the value is an integer from low to high."""
    return is_whole(value) and low <= value <= high


def is_price(value):
    """Tell whether the value is an integer from 0 on, or None."""
    return value is None or (is_whole(value) and value >= 0)


def total(prices):
    """Return the sum of a list of prices: None if one of them is."""
    return None if None in prices else sum(prices)


def least(prices):
    """Return the least of a list of prices: None only if there is nothing less."""
    return min([price for price in prices if price is not None], default=None)


def read_integer(word):
    """Return the integer that is written in one to sixty digits without leading zeros, or None."""
    # Longer words are refused unread: Python reads no integers of more than 4,300 digits.
    if not 1 <= len(word) <= MOST_DIGITS:
        return None
    if not all([mark in DIGITS for mark in word]):
        return None
    if word[0] == "0" and word != "0":
        return None
    return int(word)


def price_text(price):
    """Return how a price is written."""
    return BARRED_TEXT if price is None else str(price)


def is_price_text(word):
    """Tell whether the word writes a price of at most sixty digits."""
    return word == BARRED_TEXT or read_integer(word) is not None


def read_price(word):
    """Return the price that a word for which is_price_text holds writes."""
    return None if word == BARRED_TEXT else read_integer(word)
