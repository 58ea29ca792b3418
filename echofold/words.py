"""What many hops one after another come to, put together in few steps.

The parts may be any objects that are put together by *, in the order of the hops; unit is the part that changes none.
"""

from echofold.circles import hops_back


def put_together(song, place, hops, parts):
    """Return what so many hops from a place come to; parts is the tuple (unit, hop on, hop back)."""
    unit, on_part, back_part = parts
    on, back = song.delays
    backs = hops_back(song, place, hops)
    ons = hops - backs
    if ons == 0:
        return repeated(unit, back_part, backs)
    # Back as often as possible, then on, and so on: (place + i * on) // back hops lead back before i + 1 lead on.
    rest = backs - (place + (ons - 1) * on) // back
    start = repeated(unit, back_part, place // back) * on_part
    middle = staircase((on, back, place % back, ons - 1), unit, back_part, on_part)
    return start * middle * repeated(unit, back_part, rest)


def staircase(slope, unit, rise, step):
    """Return what the steps from 1 to many come to, with all rises below it before each step.

    slope is (high, wide, start, many), start less than wide; below step i lie (start + i * high) // wide rises.
    """
    high, wide, start, many = slope
    before = unit
    behind = unit
    while True:
        # Each step has so many rises before it: one longer step.
        step = repeated(unit, rise, high // wide) * step
        high = high % wide
        rises = (many * high + start) // wide
        if rises == 0:
            return before * repeated(unit, step, many) * behind
        # Seen from the rises: between two of them lie steps, as it was the other way around.
        first = (wide - start - 1) // high
        last = many - (rises * wide - start - 1) // high
        before = before * repeated(unit, step, first) * rise
        behind = repeated(unit, step, last) * behind
        start = wide - start - 1 - first * high
        high, wide, many = wide, high, rises - 1
        rise, step = step, rise


def repeated(unit, part, times):
    """Return what the part comes to so many times."""
    whole = unit
    left = times
    power = part
    while left > 0:
        if left % 2 == 1:
            whole = whole * power
        left = left // 2
        if left > 0:
            power = power * power
    return whole
