"""Shared books: points drawn by shares, how likely they are, their means and spreads."""

from math import lcm

from dustwithin.fractions import in_lowest_terms, is_fraction, writings_of
from dustwithin.kinds import has_named_rows, is_rising, is_whole
from dustwithin.systems import solved

MOST_TRIPLES = 12
MOST_BOTTOM = 100


def is_shared(thing):
    """Whether anything is a shared book."""
    return has_named_rows(thing) and all([_is_row(thing, row) for row in thing[1].values()])


def at_most(book, name, fraction):
    """How likely a name's point is at most a fraction."""
    # of all rows of digits, in their order, the greater writing is the last that is worth no more
    stem, ring = writings_of(book[0], fraction)[0]
    top, bottom = _chance_along(book, name, stem, ring, True)
    return in_lowest_terms(top, bottom)


def just_at(book, name, fraction):
    """How likely a name's point is just a fraction."""
    top, bottom = 0, 1
    for stem, ring in writings_of(book[0], fraction):
        more, size = _chance_along(book, name, stem, ring, False)
        top = top * size + more * bottom
        bottom = bottom * size
    return in_lowest_terms(top, bottom)


def mean(book, name):
    """The mean of a name's points."""
    whole, rows = _parted(book)
    tops, bottom = _means(book[0], whole, rows)
    return in_lowest_terms(tops[_number_of(book, name)], bottom)


def spread(book, name):
    """The mean of the squares of a name's points, less the square of their mean."""
    whole, rows = _parted(book)
    tops, bottom = _means(book[0], whole, rows)
    squares, size = _squares(book[0], whole, rows, tops, bottom)
    number = _number_of(book, name)
    top = tops[number]
    return in_lowest_terms(squares[number] * bottom * bottom - top * top * size, size * bottom * bottom)


def _is_row(book, row):
    """Whether anything is a row of a shared book whose base and names are right."""
    if not isinstance(row, tuple) or not 1 <= len(row) <= MOST_TRIPLES:
        return False
    if not all([_is_triple(book, triple) for triple in row]) or not is_rising(row):
        return False
    shares = [share for _, _, share in row]
    whole = _common_bottom(shares)
    return sum(_in_parts(whole, shares)) == whole


def _is_triple(book, thing):
    """Whether anything is a triple of a digit, a name of the book and a share."""
    if not isinstance(thing, tuple) or len(thing) != 3:
        return False
    base, rows = book
    digit, name, share = thing
    if not is_whole(digit) or not 0 <= digit < base:
        return False
    # what is no text may be no key, either
    if not isinstance(name, str) or name not in rows:
        return False
    return is_fraction(share) and share[0] > 0 and share[1] <= MOST_BOTTOM


def _common_bottom(fractions):
    bottom = 1
    for _, own in fractions:
        bottom = lcm(bottom, own)
    return bottom


def _in_parts(whole, fractions):
    """How many parts of one, of which there are whole, each of some fractions is."""
    return [top * (whole // bottom) for top, bottom in fractions]


def _number_of(book, name):
    return list(book[1]).index(name)


def _parted(book):
    """All shares by parts: how many of them are one, and for each name its triples (digit, number, parts)."""
    rows = book[1]
    numbers = {name: number for number, name in enumerate(rows)}
    whole = _common_bottom([share for row in rows.values() for _, _, share in row])
    found = []
    for row in rows.values():
        parts = _in_parts(whole, [share for _, _, share in row])
        found.append([(digit, numbers[name], part) for (digit, name, _), part in zip(row, parts)])
    return whole, found


def _chance_along(book, name, stem, ring, with_less):
    """How likely a name's digits are those of a writing, or, with less, come no later: (top, bottom)."""
    whole, rows = _parted(book)
    chances, size = _chances_around(whole, rows, ring, with_less)
    # a line is what is known of a name: here its chance alone
    lines, size = _gone_back(whole, rows, stem, with_less, [[chance] for chance in chances], size)
    return lines[_number_of(book, name)][0], size


def _chances_around(whole, rows, ring, with_less):
    """For each name the chance that its digits are ring's without end, or, with less, come no later."""
    many = len(rows)
    # what is known of a name: how likely it comes to each name by the ring once, and to less
    lines = [[int(number == other) for other in range(many)] + [0] for number in range(many)]
    lines, size = _gone_back(whole, rows, ring, with_less, lines, 1)
    sure = _sure_of(lines, size)
    others = [number for number in range(many) if number not in sure]
    sums = []
    for number in others:
        line = lines[number]
        row = [size * int(number == other) - line[other] for other in others]
        sums.append(row + [line[-1] + sum([line[other] for other in sure])])
    tops, bottom = solved(sums)
    chances = [bottom] * many
    for number, top in zip(others, tops):
        chances[number] = top
    return chances, bottom


def _sure_of(lines, size):
    """The names whose digits are the ring's for sure: each comes by it once to such names alone."""
    sure = list(range(len(lines)))
    while True:
        kept = [number for number in sure if sum([lines[number][other] for other in sure]) == size]
        if kept == sure:
            return sure
        sure = kept


def _gone_back(whole, rows, digits, with_less, lines, size):
    """Lines, one for each name, over size, as they are ahead of some digits, by those behind them.

    A line's last number is a chance: with less, that of lesser digits is put to it.
    """
    for digit in reversed(digits):
        found = []
        for row in rows:
            line = [0] * len(lines[0])
            for own, number, parts in row:
                if own == digit:
                    line = [one + parts * other for one, other in zip(line, lines[number])]
                elif own < digit and with_less:
                    line[-1] += parts * size
            found.append(line)
        lines = found
        size = size * whole
    return lines, size


def _means(base, whole, rows):
    """The means of all names, tops over one bottom."""
    # base times a mean is that of the digits and of the means of the names behind them
    sums = [sum([parts * digit for digit, _, parts in row]) for row in rows]
    return _solved_by(base * whole, rows, sums)


def _squares(base, whole, rows, tops, bottom):
    """The means of the squares of all names' points, by their means: tops over one bottom."""
    sums = []
    for row in rows:
        # the square of a digit and what is behind it, over the bottom of the means
        sums.append(sum([
            parts * (digit * digit * bottom + 2 * digit * tops[number]) for digit, number, parts in row
        ]))
    squares, size = _solved_by(base * base * whole, rows, sums)
    return squares, size * bottom


def _solved_by(times, rows, sums):
    """The numbers, one for each name, that times are what those of the names behind come to, and a sum."""
    many = len(rows)
    lines = []
    for at, row in enumerate(rows):
        line = [0] * many
        line[at] = times
        for _, number, parts in row:
            line[number] -= parts
        lines.append(line + [sums[at]])
    return solved(lines)
