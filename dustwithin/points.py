"""Points: whether a fraction is in a set, a set's ends, and its points nearest to a fraction."""

from dustwithin.fractions import writings_of
from dustwithin.paths import GREATEST, LEAST, end_behind


def is_in(value, fraction):
    """Whether a fraction is a point of a set."""
    # of two writings one is enough: as ends agree, the other one goes along cells just where it does
    stem, ring = writings_of(value[0], fraction)[0]
    return _cells_along(value[1], stem, ring)[-1] is not None


def least(value):
    """The least point of a set, None of the empty one."""
    return end_behind(value, (), 0, LEAST) if value[1] else None


def greatest(value):
    """The greatest point of a set, None of the empty one."""
    return end_behind(value, (), 0, GREATEST) if value[1] else None


def under(value, fraction):
    """The greatest point of a set that is not greater than a fraction, or None."""
    return _nearest(value, fraction, GREATEST)


def over(value, fraction):
    """The least point of a set that is not less than a fraction, or None."""
    return _nearest(value, fraction, LEAST)


def _cells_along(rows, stem, ring):
    """The numbers of the cells along a writing, the whole first.

    The last one is None, the first empty cell, or the writing has come round there.
    """
    cells = [0 if rows else None]
    _go_along(rows, cells, stem)
    starts = {}
    while cells[-1] is not None and cells[-1] not in starts:
        starts[cells[-1]] = True
        _go_along(rows, cells, ring)
    return cells


def _go_along(rows, cells, digits):
    """Puts to cells those to which digits lead from the last one, up to the first empty one."""
    for digit in digits:
        if cells[-1] is None:
            return
        cells.append(rows[cells[-1]][digit])


def _nearest(value, fraction, end):
    """The point that is nearest to a fraction, from below the GREATEST, from above the LEAST one there."""
    base, rows = value
    stem, ring = writings_of(base, fraction)[0]
    cells = _cells_along(rows, stem, ring)
    if cells[-1] is not None:
        return fraction
    digits = stem + ring * (len(cells) // len(ring) + 1)
    # the longer a point goes along with the fraction, the nearer it is
    for at in reversed(range(len(cells) - 1)):
        beside = _digits_beside(rows[cells[at]], digits[at], end)
        if beside:
            digit = beside[end]
            return end_behind(value, digits[:at] + (digit,), rows[cells[at]][digit], end)
    return None


def _digits_beside(row, digit, end):
    """The digits less than digit, or above it, whose cells aren't empty."""
    if end == GREATEST:
        return [other for other in range(digit) if row[other] is not None]
    return [other for other in range(digit + 1, len(row)) if row[other] is not None]
