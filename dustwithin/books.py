"""Books: names whose rows of pairs (digit, name) tell numbers by endless ways."""

from dustwithin.errors import NoWay
from dustwithin.fractions import fraction_of, writings_of
from dustwithin.kinds import has_named_rows, is_rising, is_whole


def is_book(thing):
    """Whether anything is a book."""
    return has_named_rows(thing) and all([_is_row(thing, row) for row in thing[1].values()])


def live(book):
    """The names, rising, that have endless ways."""
    rows = book[1]
    names = sorted(rows)
    while True:
        going = [name for name in names if _leads_to(rows[name], names)]
        if going == names:
            return names
        names = going


def point_by(book, name, stem, ring):
    """The fraction that a way of the name tells; NoWay of anything that is none."""
    if not _is_way(book, name, stem, ring):
        raise NoWay("no way of the name that comes round")
    ahead = [digit for digit, _ in stem]
    around = [digit for digit, _ in ring]
    return fraction_of(book[0], ahead, around)


def way_to(book, name, fraction):
    """A way of the name, (stem, ring), that tells the fraction; None where it is no point."""
    base, rows = book
    for stem, ring in writings_of(base, fraction):
        way = _way_along(rows, name, stem, ring)
        if way is not None:
            return way
    return None


def _is_row(book, row):
    """Whether anything is a row of a book whose base and names are right."""
    if not isinstance(row, tuple) or len(row) > 12:
        return False
    return all([_is_pair(book, pair) for pair in row]) and is_rising(row)


def _is_pair(book, thing):
    """Whether anything is a pair of a digit and a name of the book."""
    if not isinstance(thing, tuple) or len(thing) != 2:
        return False
    base, rows = book
    digit, name = thing
    if not is_whole(digit) or not 0 <= digit < base:
        return False
    # what is no text may be no key, either
    return isinstance(name, str) and name in rows


def _leads_to(row, names):
    return any([name in names for _, name in row])


def _is_way(book, name, stem, ring):
    """Whether anything is, as stem and ring, a way of the name that comes round."""
    if not isinstance(stem, tuple) or not isinstance(ring, tuple) or not ring:
        return False
    here = name
    # ring's first pair, once more behind its last one: there it comes round
    for pair in stem + ring + ring[:1]:
        # a pair with a truth in it would be found in the row, as True == 1
        if not _is_pair(book, pair) or pair not in book[1][here]:
            return False
        here = pair[1]
    return True


def _way_along(rows, name, stem, ring):
    """A way of the name whose digits are those of this one writing, or None."""
    in_ring = _lasting(rows, ring)
    in_stem = _leading(rows, stem, in_ring[0])
    if name not in in_stem[0]:
        return None
    way = _walked(rows, name, stem, in_stem)
    here = way[-1][1] if way else name
    starts = []
    rounds = []
    # there are but few names: one of them must begin a second round
    while here not in starts:
        starts.append(here)
        rounds.append(_walked(rows, here, ring, in_ring))
        here = rounds[-1][-1][1]
    back = starts.index(here)
    return _strung([way] + rounds[:back]), _strung(rounds[back:])


def _lasting(rows, ring):
    """For each place in ring the names that can go on from it without end."""
    names = list(rows)
    while True:
        kept = _leading(rows, ring, names)
        if kept[0] == names:
            return kept
        names = kept[0]


def _leading(rows, digits, names):
    """For each place in digits the names that can go on from it to one of names behind the last."""
    kept = [names]
    for digit in reversed(digits):
        ends = kept[-1]
        kept.append([name for name in rows if _by_digit(rows[name], digit, ends)])
    return kept[::-1]


def _by_digit(row, digit, names):
    """Those of names to which a row leads by a digit."""
    return [name for own, name in row if own == digit and name in names]


def _walked(rows, name, digits, kept):
    """The pairs gone by from a name along digits, through the names kept for each place."""
    way = []
    here = name
    for digit, names in zip(digits, kept[1:]):
        here = _by_digit(rows[here], digit, names)[0]
        way.append((digit, here))
    return way


def _strung(ways):
    return tuple([pair for way in ways for pair in way])
