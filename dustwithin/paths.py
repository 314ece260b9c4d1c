"""Ways along the cells of sets: to their ends, and to where two sets are unlike."""

from dustwithin.fractions import fraction_of

# which of the digits that go on is taken, of a rising list of them
LEAST = 0
GREATEST = -1


def end_behind(value, digits, at, end):
    """The LEAST or GREATEST point of the cell with number at, to which digits lead, as a point of the whole."""
    base, rows = value
    stem, ring = _way_to_end(rows, at, end)
    return fraction_of(base, tuple(digits) + stem, ring)


def first_apart(one, other, sides):
    """The first row of digits by which the cell of one side alone, one of sides, isn't empty.

    Told is (digits, side, the number of that cell), or None where there is no such row.
    """
    first = (_start(one), _start(other))
    if first == (None, None):
        return None
    # by shorter rows of digits first, of like ones as Python sorts: so each pair comes by its first one
    pairs = [first]
    origins = [None]
    seen = {first}
    at = 0
    while at < len(pairs):
        mine, others = pairs[at]
        side = _side_alone(mine, others)
        if side in sides:
            return _digits_to(origins, at), side, pairs[at][side]
        if side is None:
            for digit, pair in enumerate(zip(one[1][mine], other[1][others])):
                if pair != (None, None) and pair not in seen:
                    seen.add(pair)
                    pairs.append(pair)
                    origins.append((at, digit))
        at += 1
    return None


def _way_to_end(rows, at, end):
    """The digits, (stem, ring), of the LEAST or GREATEST way along the cells of the one with number at."""
    places = {}
    digits = []
    here = at
    while here not in places:
        places[here] = len(digits)
        going = [digit for digit, number in enumerate(rows[here]) if number is not None]
        digits.append(going[end])
        here = rows[here][going[end]]
    back = places[here]
    return tuple(digits[:back]), tuple(digits[back:])


def _start(value):
    """The number of the whole, None where it is empty."""
    return 0 if value[1] else None


def _side_alone(mine, others):
    """Which of two cells, one of them not empty, is the only one that isn't; None where neither is empty."""
    if others is None:
        return 0
    return 1 if mine is None else None


def _digits_to(origins, at):
    digits = []
    here = at
    while origins[here] is not None:
        here, digit = origins[here]
        digits.append(digit)
    return digits[::-1]
