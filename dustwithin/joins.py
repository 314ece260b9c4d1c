"""Sets made of others: joined, met, turned, cut, put together; and whether one is part of another."""

from dustwithin.errors import NoBase, NoStretch
from dustwithin.paths import LEAST, end_behind, first_apart
from dustwithin.points import is_in
from dustwithin.tables import base_of, grown, numbered, value_of


def joined(one, other):
    """All that is in either of two sets; NoBase of unlike bases."""
    base = base_of((one, other))
    if not one[1]:
        return other
    if not other[1]:
        return one
    nothing = (None,) * base

    def cells(pair):
        mine, others = pair
        row = nothing if mine is None else one[1][mine]
        other_row = nothing if others is None else other[1][others]
        return [None if ahead == (None, None) else ahead for ahead in zip(row, other_row)]

    return value_of(base, grown((0, 0), cells))


def met(one, other):
    """All that is in both of two sets; NoBase of unlike bases."""
    base = base_of((one, other))
    if not one[1] or not other[1]:
        return base, ()

    def cells(pair):
        mine, others = pair
        return [None if None in ahead else ahead for ahead in zip(one[1][mine], other[1][others])]

    return value_of(base, grown((0, 0), cells))


def turned(value):
    """All 1 less a point of a set."""
    base, rows = value
    return numbered(base, [row[::-1] for row in rows], 0) if rows else value


def stretch(base, low, high):
    """The set of all from a fraction to another one; NoStretch where that one is less."""
    low_top, low_bottom = low
    high_top, high_bottom = high
    if low_top * high_bottom > high_top * low_bottom:
        raise NoStretch("the end is less than the beginning")

    # a cell of a stretch is one, too: its ends are kept as tops over the same bottoms
    def cells(tops):
        found = []
        for digit in range(base):
            begins = tops[0] * base - digit * low_bottom
            ends = tops[1] * base - digit * high_bottom
            empty = begins > low_bottom or ends < 0
            found.append(None if empty else (max(begins, 0), min(ends, high_bottom)))
        return found

    # unlike ends tell unlike sets, and none of them is empty
    return base, tuple(grown((low_top, high_top), cells))


def put(base, sets):
    """All (d + y) / base, y a point of the d-th set; NoBase of other bases or another number of sets."""
    if len(sets) != base or base_of(sets) != base:
        raise NoBase("not a set to the base for each digit")
    starts = []
    table = [starts]
    for digit in range(base):
        rows = _with_ends(base, sets, digit)[1]
        start = len(table)
        starts.append(start if rows else None)
        for row in rows:
            table.append([None if number is None else start + number for number in row])
    return value_of(base, table)


def is_part(one, other):
    """Whether all points of one set are in another one; NoBase of unlike bases."""
    base_of((one, other))
    return first_apart(one, other, (0,)) is None


def beyond(one, other):
    """A point of one set that isn't in another one, or None; NoBase of unlike bases."""
    base_of((one, other))
    apart = first_apart(one, other, (0,))
    if apart is None:
        return None
    digits, _, at = apart
    return end_behind(one, digits, at, LEAST)


def _with_ends(base, sets, digit):
    """What is put at a digit: its set, with 0 and with 1 where a neighbour's end comes to it."""
    cell = sets[digit]
    if digit > 0 and is_in(sets[digit - 1], (1, 1)):
        cell = joined(cell, stretch(base, (0, 1), (0, 1)))
    if digit + 1 < base and is_in(sets[digit + 1], (0, 1)):
        cell = joined(cell, stretch(base, (1, 1), (1, 1)))
    return cell
