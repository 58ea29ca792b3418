"""The places of a song of any length on a circle, where each hop leads equally far.

The d + e places and gaps of a song lie on a circle: from x a hop leads to x + d, or to x - e, which is the same spot
of the circle. Lines are what lies between one gap and the next one.
"""

from math import gcd


def circle_size(song):
    """Return the number of the places and gaps."""
    on, back = song.delays
    return on + back


def place_after(song, place, hops):
    """Return the place or gap to which so many hops lead."""
    return (place + hops * song.delays[0]) % circle_size(song)


def hops_back(song, place, hops):
    """Return how many of so many hops from here lead back: those that go past the end of the circle."""
    return (place + hops * song.delays[0]) // circle_size(song)


def hops_to_gap(song, place):
    """Return the number of hops from a place to the next gap, or None on a ring."""
    return steps_to_gap(song, place, song.delays[0])


def hops_from_gap(song, place):
    """Return the number of hops from the last gap to a place, or None on a ring."""
    return steps_to_gap(song, place, song.delays[1])


def hops_between(song, first, place):
    """Return the least number of hops from a lesser place, or the same, to a place of the same ring."""
    return steps_to(song.delays[0], circle_size(song), place - first, place - first)


def steps_to_gap(song, place, step):
    """Return the least number of steps of this size from a place to a gap, or None."""
    size = circle_size(song)
    if size == song.length:
        return None
    return steps_to(step, size, song.length - place, size - 1 - place)


def steps_to(step, size, low, high):
    """Return the least number of steps on a circle of this size from 0 to any spot from low to high, or None."""
    if low == 0:
        return 0
    if step == 0:
        return None
    # Long steps are short ones the other way around: so each circle is at most half as great as the one before.
    if 2 * step > size:
        return steps_to(size - step, size, size - high, size - low)
    steps = rounded_up(low, step)
    if steps * step <= high:
        return steps
    # No step of the first round ends there; the ends of the later ones lie on a circle as great as a step.
    rounds = steps_to(-size % step, step, low % step, high % step)
    return None if rounds is None else rounded_up(rounds * size + low, step)


def rounded_up(number, part):
    """Return the quotient, rounded up."""
    return -(-number // part)


def ring_count(song):
    """Return the number of the rings."""
    on, back = song.delays
    return max(0, gcd(on, back) - (on + back - song.length))


def gap_groups(song):
    """Return a list of tuples (gap, many): so many gaps from this one on with equal hops up to the next gap."""
    on, back, left = folded(song)
    if 0 in (on, back):
        # Each hop leads from a gap to itself.
        bounds = [left, on + back]
    else:
        # From a gap below back a hop leads on to a gap, from a later one back: to a place, if it is below back + left.
        bounds = [left, back, back + left, on + back]
    shift = song.length - left
    return [(low + shift, high - low) for low, high in zip(bounds, bounds[1:]) if high > low]


def folded(song):
    """Return the tuple (on, back, left): both delays and the length when no more places can be left out."""
    on, back = song.delays
    left = song.length
    while 0 < min(on, back) <= left:
        if on <= back:
            # Many folds are one, as long as the same delay stays the lesser one and there are so many places.
            taken = min(back, left) // on * on
            back = back - taken
        else:
            taken = min(on, left) // back * back
            on = on - taken
        left = left - taken
    return (on, back, left)
