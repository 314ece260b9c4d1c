"""Lengths of sets, how many cells they have at a depth, and where a cell is all from 0 to 1."""

from math import lcm

from dustwithin.errors import TooMany
from dustwithin.fractions import in_lowest_terms
from dustwithin.rings import rings_of
from dustwithin.systems import solved
from dustwithin.tables import leads_of

MOST_AROUND = 60


def length(value):
    """What is left of 1 when all stretches without points of a set are taken off.

    TooMany where more cells than are reckoned lead to one another, and to all from 0 to 1.
    """
    base, rows = value
    leads = leads_of(rows)
    lengths = [(0, 1) for _ in rows]
    for ring in rings_of(leads):
        if _is_whole(base, rows, ring[0]):
            lengths[ring[0]] = (1, 1)
        # what leads to no cell with a length has none
        elif any([lengths[number] != (0, 1) for at in ring for number in leads[at]]):
            if len(ring) > MOST_AROUND:
                raise TooMany(MOST_AROUND)
            for at, found in zip(ring, _lengths_around(base, leads, ring, lengths)):
                lengths[at] = found
    return lengths[0] if rows else (0, 1)


def cells_at(value, depth):
    """How many rows of so many digits have cells of a set that aren't empty."""
    rows = value[1]
    leads = leads_of(rows)
    counts = [1 for _ in rows]
    for _ in range(depth):
        counts = [sum([counts[number] for number in own]) for own in leads]
    return counts[0] if rows else 0


def full_at(value):
    """The first row of digits by which a set's cell is all from 0 to 1, or None."""
    base, rows = value
    firsts = {0: ()}
    # cells are numbered as they come: so each comes by its first row of digits
    for at, row in enumerate(rows):
        if _is_whole(base, rows, at):
            return firsts[at]
        for digit, number in enumerate(row):
            if number is not None and number not in firsts:
                firsts[number] = firsts[at] + (digit,)
    return None


def _is_whole(base, rows, at):
    """Whether the cell with number at is all from 0 to 1."""
    return rows[at] == (at,) * base


def _lengths_around(base, leads, ring, lengths):
    """The lengths of cells that lead to one another, by those of the others to which they lead."""
    places = {number: place for place, number in enumerate(ring)}
    bottom = 1
    for at in ring:
        for number in leads[at]:
            # those of the ring have none so far
            bottom = lcm(bottom, lengths[number][1])
    sums = []
    for at in ring:
        # base times the own length is what those of the own cells come to
        row = [0] * (len(ring) + 1)
        row[places[at]] = base
        for number in leads[at]:
            if number in places:
                row[places[number]] -= 1
            else:
                top, own = lengths[number]
                row[-1] += top * (bottom // own)
        sums.append(row)
    tops, under = solved(sums)
    return [in_lowest_terms(top, under * bottom) for top in tops]
